package blocktree

import (
	"math"
	"math/rand"
	"slices"
	"testing"

	"forkhead/api"
)

// checkValidate checks the error of Validate, and that the tree stays as it is.
func checkValidate(t *testing.T, want api.Errno, x api.Tree) {
	t.Helper()
	before := slices.Clone(x.Nodes)
	if e := Validate(x); e != want {
		t.Fatalf("Validate(%v): got %d, want %d", x, e, want)
	}
	checkTree(t, x, before...)
}

// P11.2: a tree has from 1 to MaxNodes nodes; this comes before every other error.
func TestValidateCountsNodes(t *testing.T) {
	checkValidate(t, api.ErrFull, api.Tree{})
	checkValidate(t, api.ErrFull, treeOf([]api.Node{}...))
	checkValidate(t, api.ErrFull, api.Tree{Nodes: make([]api.Node, 0, 5)})
	checkValidate(t, api.OK, chain(1))
	checkValidate(t, api.OK, chain(api.MaxNodes-1))
	checkValidate(t, api.OK, chain(api.MaxNodes))
	checkValidate(t, api.ErrFull, chain(api.MaxNodes+1))
	checkValidate(t, api.ErrFull, chain(2*api.MaxNodes))
	checkValidate(t, api.ErrFull, api.Tree{Nodes: make([]api.Node, api.MaxNodes+1)})
	checkValidate(t, api.ErrForm, api.Tree{Nodes: make([]api.Node, api.MaxNodes)})
}

// P11.2: each error, where it is the only one, and where several apply to one node.
func TestErrorsOfNodes(t *testing.T) {
	x := func(last api.Node) api.Tree {
		return treeOf(node(-1, api.Valid, block(a, b, 5)), node(0, api.Invalid, block(c, a, 8)), last)
	}
	cases := []struct {
		last api.Node
		e    api.Errno
	}{
		{node(0, api.Optimistic, block(d, a, 6)), api.OK},
		{node(0, api.Invalid, block(zero, a, most)), api.OK},
		{node(1, api.Valid, block(b, c, 9)), api.OK},

		{node(0, -1, block(d, a, 6)), api.ErrForm},
		{node(0, 3, block(d, a, 6)), api.ErrForm},
		{node(0, math.MinInt, block(d, a, 6)), api.ErrForm},
		{node(0, math.MaxInt, block(d, a, 6)), api.ErrForm},
		{node(0, 1<<32, block(d, a, 6)), api.ErrForm},
		{node(-1, api.Valid, block(d, a, 6)), api.ErrForm},
		{node(2, api.Valid, block(d, d, 6)), api.ErrForm},
		{node(3, api.Valid, block(d, a, 6)), api.ErrForm},
		{node(-2, api.Valid, block(d, a, 6)), api.ErrForm},
		{node(math.MinInt, api.Valid, block(d, a, 6)), api.ErrForm},
		{node(math.MaxInt, api.Valid, block(d, a, 6)), api.ErrForm},
		{node(1<<32, api.Valid, block(d, a, 6)), api.ErrForm},

		{node(0, api.Valid, block(a, a, 6)), api.ErrDuplicate},
		{node(0, api.Valid, block(c, a, 6)), api.ErrDuplicate},
		{node(1, api.Valid, block(c, c, 9)), api.ErrDuplicate},

		{node(0, api.Valid, block(d, c, 9)), api.ErrUnknown},
		{node(1, api.Valid, block(d, a, 9)), api.ErrUnknown},
		{node(0, api.Valid, block(d, d, 9)), api.ErrUnknown},
		{node(0, api.Valid, block(d, b, 9)), api.ErrUnknown},
		{node(0, api.Valid, block(d, zero, 9)), api.ErrUnknown},

		{node(0, api.Valid, block(d, a, 5)), api.ErrSlot},
		{node(0, api.Valid, block(d, a, 4)), api.ErrSlot},
		{node(0, api.Valid, block(d, a, 0)), api.ErrSlot},
		{node(1, api.Valid, block(d, c, 8)), api.ErrSlot},
		{node(1, api.Valid, block(d, c, 6)), api.ErrSlot},

		{node(0, 3, block(a, d, 0)), api.ErrForm},
		{node(2, api.Valid, block(a, d, 0)), api.ErrForm},
		{node(-1, api.Valid, block(a, d, 0)), api.ErrForm},
		{node(0, api.Valid, block(a, d, 0)), api.ErrDuplicate},
		{node(0, api.Valid, block(c, a, 0)), api.ErrDuplicate},
		{node(0, api.Valid, block(d, d, 0)), api.ErrUnknown},
		{node(1, api.Valid, block(d, a, 8)), api.ErrUnknown},
	}
	for _, k := range cases {
		checkValidate(t, k.e, x(k.last))
	}
}

// P11.2: node 0 has the Up -1 and a status; its parent and slot do not matter.
func TestErrorsOfTheFirstNode(t *testing.T) {
	for _, x := range []api.Block{{}, block(a, a, 0), block(a, zero, most), block(zero, a, 1), whole(a, b, 1)} {
		checkValidate(t, api.OK, treeOf(node(-1, api.Invalid, x)))
		for _, up := range []int{math.MinInt, -2, 0, 1, 2, math.MaxInt} {
			checkValidate(t, api.ErrForm, treeOf(node(up, api.Valid, x)))
			checkValidate(t, api.ErrForm, treeOf(node(up, api.Valid, x), node(0, api.Valid, block(c, x.Root, x.Slot))))
		}
		checkValidate(t, api.ErrForm, treeOf(node(-1, 3, x)))
		checkValidate(t, api.ErrForm, treeOf(node(-1, -1, x)))
	}
	// The parent of node 0 may be the root of a later node.
	checkValidate(t, api.OK, treeOf(node(-1, api.Valid, block(a, c, 0)), node(0, api.Valid, block(c, a, 1))))
}

// P11.2: slots may have any value.
func TestGreatSlots(t *testing.T) {
	for _, slot := range []uint64{0, 1, api.MaxSlot, 1<<63 - 1, 1 << 63, most - 1} {
		first := node(-1, api.Valid, block(a, zero, slot))
		checkValidate(t, api.OK, treeOf(first, node(0, api.Valid, block(b, a, slot+1))))
		checkValidate(t, api.OK, treeOf(first, node(0, api.Valid, block(b, a, most))))
		checkValidate(t, api.ErrSlot, treeOf(first, node(0, api.Valid, block(b, a, slot))))
		checkInsert(t, api.OK, treeOf(first), block(b, a, slot+1), api.Valid)
		checkInsert(t, api.ErrSlot, treeOf(first), block(b, a, slot), api.Valid)
	}
	last := treeOf(node(-1, api.Valid, block(a, zero, most)))
	for _, slot := range []uint64{0, 1, 1 << 63, most} {
		checkInsert(t, api.ErrSlot, last, block(b, a, slot), api.Valid)
	}
}

// P11.2, R6: the first faulty node counts, and a node counts as one before even if it has no children.
func TestTheFirstFaultyNodeCounts(t *testing.T) {
	faults := []struct {
		spoil func(x api.Tree, i int)
		e     api.Errno
	}{
		{func(x api.Tree, i int) { x.Nodes[i].Status = 3 }, api.ErrForm},
		{func(x api.Tree, i int) { x.Nodes[i].Up = i }, api.ErrForm},
		{func(x api.Tree, i int) { x.Nodes[i].Root = x.Nodes[0].Root }, api.ErrDuplicate},
		{func(x api.Tree, i int) { x.Nodes[i].Root = x.Nodes[i-1].Root }, api.ErrDuplicate},
		{func(x api.Tree, i int) { x.Nodes[i].Parent = api.Root{8} }, api.ErrUnknown},
		{func(x api.Tree, i int) { x.Nodes[i].Parent = numbered(len(x.Nodes) - 1) }, api.ErrUnknown},
		{func(x api.Tree, i int) { x.Nodes[i].Slot = x.Nodes[x.Nodes[i].Up].Slot }, api.ErrSlot},
	}
	for i := 1; i < 8; i++ {
		for _, f := range faults {
			x := chain(9)
			f.spoil(x, i)
			checkValidate(t, f.e, x)
			for j := i + 1; j < 8; j++ {
				for _, g := range faults {
					y := treeOf(slices.Clone(x.Nodes)...)
					g.spoil(y, j)
					checkValidate(t, f.e, y)
				}
			}
		}
	}
	x := grow(0, 0, 0)
	x.Nodes[3].Root = x.Nodes[1].Root
	checkValidate(t, api.ErrDuplicate, x)
}

// errorOf is P11.2, sentence by sentence.
func errorOf(x api.Tree) api.Errno {
	if len(x.Nodes) < 1 || len(x.Nodes) > api.MaxNodes {
		return api.ErrFull
	}
	for i, n := range x.Nodes {
		isFaulty := i == 0 && n.Up != -1 || i != 0 && (n.Up < 0 || n.Up > i-1)
		if !slices.Contains([]int{api.Optimistic, api.Valid, api.Invalid}, n.Status) || isFaulty {
			return api.ErrForm
		}
		if slices.ContainsFunc(x.Nodes[:i], func(m api.Node) bool { return m.Root == n.Root }) {
			return api.ErrDuplicate
		}
		if i != 0 && n.Parent != x.Nodes[n.Up].Root {
			return api.ErrUnknown
		}
		if i != 0 && !(n.Slot > x.Nodes[n.Up].Slot) {
			return api.ErrSlot
		}
	}
	return api.OK
}

// P11.2: trees with some fields changed at random, often with several faults.
func TestRandomFaults(t *testing.T) {
	random := rand.New(rand.NewSource(2))
	seen := map[api.Errno]int{}
	for range 50000 {
		ups := make([]int, random.Intn(6))
		for i := range ups {
			ups[i] = random.Intn(i + 1)
		}
		x := grow(ups...)
		for range random.Intn(4) {
			n := &x.Nodes[random.Intn(len(x.Nodes))]
			switch random.Intn(5) {
			case 0:
				n.Status = random.Intn(5) - 1
			case 1:
				n.Up = random.Intn(8) - 1
			case 2:
				n.Root = numbered(random.Intn(7))
			case 3:
				n.Parent = numbered(random.Intn(7))
			case 4:
				n.Slot = uint64(random.Intn(6))
			}
		}
		e := errorOf(x)
		checkValidate(t, e, x)
		seen[e]++
	}
	for _, e := range []api.Errno{api.OK, api.ErrForm, api.ErrDuplicate, api.ErrUnknown, api.ErrSlot} {
		if seen[e] < 500 {
			t.Errorf("error %d: only %d trees", e, seen[e])
		}
	}
}

// checkInsert checks what Insert returns, and that the tree it is given stays as it is.
func checkInsert(t *testing.T, want api.Errno, x api.Tree, b api.Block, status int) {
	t.Helper()
	before := slices.Clone(x.Nodes)
	y, e := Insert(x, b, status)
	if e != want {
		t.Fatalf("Insert(%v, %d): got %d, want %d", b, status, e, want)
	}
	checkTree(t, x, before...)
	if e != api.OK {
		checkTree(t, y)
		return
	}
	up := slices.IndexFunc(before, func(n api.Node) bool { return n.Root == b.Parent })
	checkTree(t, y, append(before, node(up, status, b))...)
}

// P11.4, R4, R6: the errors, also where several of them apply.
func TestErrorsOfInsert(t *testing.T) {
	x := treeOf(node(-1, api.Valid, block(a, b, 5)), node(0, api.Invalid, block(c, a, 8)))
	cases := []struct {
		b      api.Block
		status int
		e      api.Errno
	}{
		{block(d, a, 6), api.Optimistic, api.OK},
		{block(d, a, 6), api.Valid, api.OK},
		{block(d, a, 6), api.Invalid, api.OK},
		{block(d, c, 9), api.Valid, api.OK},
		{block(d, c, most), api.Optimistic, api.OK},
		{block(zero, a, 6), api.Valid, api.OK},
		{block(b, a, 6), api.Valid, api.OK},
		{whole(d, c, 9), api.Optimistic, api.OK},

		{block(d, a, 6), -1, api.ErrForm},
		{block(d, a, 6), 3, api.ErrForm},
		{block(d, a, 6), math.MinInt, api.ErrForm},
		{block(d, a, 6), math.MaxInt, api.ErrForm},
		{block(d, a, 6), 1 << 32, api.ErrForm},

		{block(a, a, 6), api.Valid, api.ErrDuplicate},
		{block(c, a, 6), api.Valid, api.ErrDuplicate},
		{block(c, c, 9), api.Valid, api.ErrDuplicate},
		{block(c, a, 8), api.Invalid, api.ErrDuplicate},

		{block(d, b, 9), api.Valid, api.ErrUnknown},
		{block(d, d, 9), api.Valid, api.ErrUnknown},
		{block(d, zero, 9), api.Valid, api.ErrUnknown},
		{block(b, b, 9), api.Valid, api.ErrUnknown},
		{block(zero, zero, 9), api.Valid, api.ErrUnknown},
		{block(d, api.Root{0: 1, 16: 1}, 9), api.Valid, api.ErrUnknown},

		{block(d, a, 5), api.Valid, api.ErrSlot},
		{block(d, a, 0), api.Valid, api.ErrSlot},
		{block(d, c, 8), api.Valid, api.ErrSlot},
		{block(d, c, 6), api.Valid, api.ErrSlot},

		{block(a, d, 0), 3, api.ErrForm},
		{block(d, d, 0), -1, api.ErrForm},
		{block(d, a, 0), 3, api.ErrForm},
		{block(a, d, 0), api.Valid, api.ErrDuplicate},
		{block(c, a, 0), api.Valid, api.ErrDuplicate},
		{block(d, d, 0), api.Valid, api.ErrUnknown},
	}
	for _, k := range cases {
		checkInsert(t, k.e, x, k.b, k.status)
	}
}

// P11.4: a tree grows up to MaxNodes nodes; every other error comes before ErrFull.
func TestInsertIntoFullTrees(t *testing.T) {
	x := chain(api.MaxNodes - 1)
	first, last := numbered(0), numbered(api.MaxNodes-2)
	checkInsert(t, api.OK, x, block(a, first, most), api.Valid)
	checkInsert(t, api.OK, x, block(a, last, most), api.Valid)
	x = insert(t, x, block(a, last, most-1), api.Optimistic)
	checkInsert(t, api.ErrFull, x, block(b, a, most), api.Valid)
	checkInsert(t, api.ErrFull, x, block(b, first, 2), api.Optimistic)
	checkInsert(t, api.ErrForm, x, block(b, first, 2), 3)
	checkInsert(t, api.ErrDuplicate, x, block(a, last, most), api.Valid)
	checkInsert(t, api.ErrDuplicate, x, block(first, b, 0), api.Valid)
	checkInsert(t, api.ErrUnknown, x, block(b, b, most), api.Valid)
	checkInsert(t, api.ErrSlot, x, block(b, a, most-1), api.Valid)
}

// P11.4, P11.2: Insert accepts exactly the blocks that Validate accepts as one more node.
func TestInsertAgreesWithValidate(t *testing.T) {
	random := rand.New(rand.NewSource(3))
	for range 20000 {
		ups := make([]int, random.Intn(6))
		for i := range ups {
			ups[i] = random.Intn(i + 1)
		}
		x := grow(ups...)
		y := whole(numbered(random.Intn(9)), numbered(random.Intn(8)), uint64(random.Intn(8)))
		status := random.Intn(4)
		up := slices.IndexFunc(x.Nodes, func(n api.Node) bool { return n.Root == y.Parent })
		want := errorOf(treeOf(append(slices.Clone(x.Nodes), node(max(up, 0), status, y))...))
		checkInsert(t, want, x, y, status)
	}
}
