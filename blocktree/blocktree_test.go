package blocktree

import (
	"math"
	"math/rand"
	"slices"
	"testing"

	"forkhead/api"
)

// most is the greatest number.
const most = math.MaxUint64

var (
	zero api.Root
	a    = api.Root{1}
	b    = api.Root{2}
	c    = api.Root{31: 1}
	d    = api.Root{0: 1, 31: 1}
)

// strange are numbers that are no index of any tree.
var strange = []int{math.MinInt, -1 << 32, -2, -1, api.MaxNodes + 1, 1 << 32, math.MaxInt}

// numbered returns the root with the number n; for n of at least 0 it is neither zero nor one of those above.
func numbered(n int) api.Root {
	return api.Root{0: 9, 15: byte(n), 16: byte(n >> 8)}
}

// block returns a block.
func block(root, parent api.Root, slot uint64) api.Block {
	return api.Block{Root: root, Parent: parent, Slot: slot}
}

// whole returns a block none of whose fields is zero.
func whole(root, parent api.Root, slot uint64) api.Block {
	return api.Block{
		Pulled: api.Pulled{
			PulledJustified: api.Checkpoint{Epoch: 1, Root: api.Root{3: 1}},
			PulledFinalized: api.Checkpoint{Epoch: 2, Root: api.Root{4: 1}},
		},
		Slot: slot, Root: root, Parent: parent, Payload: api.Root{5: 1},
		Difficulty:       api.Wide{1, 2, 3, 4},
		ParentDifficulty: api.Wide{5, 6, 7, 8},
		Justified:        api.Checkpoint{Epoch: 3, Root: api.Root{6: 1}},
		Finalized:        api.Checkpoint{Epoch: 4, Root: api.Root{7: 1}},
		Timely:           true,
	}
}

// node returns a node.
func node(up, status int, b api.Block) api.Node {
	return api.Node{Block: b, Up: up, Status: status}
}

// treeOf returns the tree of these nodes.
func treeOf(l ...api.Node) api.Tree {
	return api.Tree{Nodes: l}
}

// insert returns what Insert returns for arguments that it accepts.
func insert(t *testing.T, x api.Tree, b api.Block, status int) api.Tree {
	t.Helper()
	y, e := Insert(x, b, status)
	if e != api.OK {
		t.Fatalf("Insert(%v, %d): got %d", b, status, e)
	}
	return y
}

// grow returns the valid tree whose node i + 1 has the parent ups[i]; its roots are numbered, its slots are the depths.
func grow(ups ...int) api.Tree {
	x := treeOf(node(-1, api.Valid, block(numbered(0), zero, 1)))
	for i, up := range ups {
		parent := x.Nodes[up]
		x.Nodes = append(x.Nodes, node(up, api.Optimistic, block(numbered(i+1), parent.Root, parent.Slot+1)))
	}
	return x
}

// chain returns the valid tree with n nodes and one leaf.
func chain(n int) api.Tree {
	ups := make([]int, n-1)
	for i := range ups {
		ups[i] = i
	}
	return grow(ups...)
}

// checkTree checks that a tree has these nodes.
func checkTree(t *testing.T, x api.Tree, want ...api.Node) {
	t.Helper()
	if !slices.Equal(x.Nodes, want) {
		t.Fatalf("got %v\nwant %v", x.Nodes, want)
	}
}

// childrenOf is P11.3 for Children, and none for an i that is not an index.
func childrenOf(x api.Tree, i int) []int {
	children := []int{}
	for j := 1; j < len(x.Nodes); j++ {
		if x.Nodes[j].Up == i {
			children = append(children, j)
		}
	}
	return children
}

// depthOf is P11.3 for Depth.
func depthOf(x api.Tree, i int) int {
	if i <= 0 || i >= len(x.Nodes) {
		return map[int]int{0: 1}[i]
	}
	return 1 + depthOf(x, x.Nodes[i].Up)
}

// leavesOf is P11.3 for Leaves.
func leavesOf(x api.Tree) []int {
	leaves := []int{}
	for i := range x.Nodes {
		if len(childrenOf(x, i)) == 0 {
			leaves = append(leaves, i)
		}
	}
	return leaves
}

// checkShape checks what Find, Children, Depth and Leaves return for a valid tree.
func checkShape(t *testing.T, x api.Tree) {
	t.Helper()
	for i := range x.Nodes {
		if got := Find(x, x.Nodes[i].Root); got != i {
			t.Fatalf("Find(%x): got %d, want %d", x.Nodes[i].Root, got, i)
		}
	}
	n := len(x.Nodes)
	places := append([]int{n, n + 1}, strange...)
	for i := range x.Nodes {
		places = append(places, i)
	}
	for _, i := range places {
		if got, want := Children(x, i), childrenOf(x, i); !slices.Equal(got, want) {
			t.Fatalf("Children(%d): got %d, want %d", i, got, want)
		}
		if got, want := Depth(x, i), depthOf(x, i); got != want {
			t.Fatalf("Depth(%d): got %d, want %d", i, got, want)
		}
	}
	if got, want := Leaves(x), leavesOf(x); !slices.Equal(got, want) {
		t.Fatalf("Leaves: got %d, want %d", got, want)
	}
}

// P11.1: the only node has the block as it is, the status and the Up -1.
func TestNew(t *testing.T) {
	for _, x := range []api.Block{{}, block(a, zero, 0), block(a, a, most), whole(a, b, 7), whole(zero, c, most)} {
		for _, status := range []int{api.Optimistic, api.Valid, api.Invalid} {
			y := New(x, status)
			checkTree(t, y, node(-1, status, x))
			checkShape(t, y)
			if e := Validate(y); e != api.OK {
				t.Errorf("Validate(New(%v, %d)): got %d", x, status, e)
			}
		}
	}
}

// P11.1: New takes a status that is none as well; Validate finds it.
func TestNewWithFaultyStatus(t *testing.T) {
	for _, status := range []int{math.MinInt, -1, 3, 1 << 32, math.MaxInt} {
		y := New(whole(a, b, 7), status)
		checkTree(t, y, node(-1, status, whole(a, b, 7)))
		if e := Validate(y); e != api.ErrForm {
			t.Errorf("Validate(New(b, %d)): got %d", status, e)
		}
	}
}

// P11.3: the indexes of some trees, by hand.
func TestShapes(t *testing.T) {
	cases := []struct {
		ups      []int
		children [][]int
		depths   []int
		leaves   []int
	}{
		{nil, [][]int{nil}, []int{1}, []int{0}},
		{[]int{0}, [][]int{{1}, nil}, []int{1, 2}, []int{1}},
		{[]int{0, 0}, [][]int{{1, 2}, nil, nil}, []int{1, 2, 2}, []int{1, 2}},
		{[]int{0, 1}, [][]int{{1}, {2}, nil}, []int{1, 2, 3}, []int{2}},
		{[]int{0, 0, 1, 0, 1, 2}, [][]int{{1, 2, 4}, {3, 5}, {6}, nil, nil, nil, nil}, []int{1, 2, 2, 3, 2, 3, 3}, []int{3, 4, 5, 6}},
		{[]int{0, 1, 2, 0, 4, 3}, [][]int{{1, 4}, {2}, {3}, {6}, {5}, nil, nil}, []int{1, 2, 3, 4, 2, 3, 5}, []int{5, 6}},
	}
	for _, x := range cases {
		y := grow(x.ups...)
		for i := range y.Nodes {
			if got := Children(y, i); !slices.Equal(got, x.children[i]) {
				t.Errorf("%d: Children(%d): got %d", x.ups, i, got)
			}
			if got := Depth(y, i); got != x.depths[i] {
				t.Errorf("%d: Depth(%d): got %d", x.ups, i, got)
			}
		}
		if got := Leaves(y); !slices.Equal(got, x.leaves) {
			t.Errorf("%d: Leaves: got %d", x.ups, got)
		}
		checkShape(t, y)
	}
}

// P11.3: Find compares whole roots, of nodes alone.
func TestFind(t *testing.T) {
	x := New(block(a, b, 1), api.Valid)
	x = insert(t, x, block(c, a, 2), api.Optimistic)
	x = insert(t, x, block(d, a, 2), api.Optimistic)
	for root, want := range map[api.Root]int{
		a: 0, c: 1, d: 2, zero: -1, b: -1, {0: 1, 15: 1}: -1, {0: 1, 30: 1}: -1, {0: 1, 31: 2}: -1, {30: 1}: -1, {1: 1}: -1,
	} {
		if got := Find(x, root); got != want {
			t.Errorf("Find(%x): got %d, want %d", root, got, want)
		}
	}
	if got := Find(insert(t, x, block(zero, d, 3), api.Valid), zero); got != 3 {
		t.Errorf("Find of the zero root: got %d", got)
	}
}

// P11.3: statuses and the other fields do not matter.
func TestShapesOfAnyStatus(t *testing.T) {
	for status := api.Optimistic; status <= api.Invalid; status++ {
		x := New(whole(a, a, 1), status)
		x = insert(t, x, whole(b, a, 2), api.Invalid)
		x = insert(t, x, whole(c, b, 3), status)
		checkShape(t, insert(t, x, whole(d, b, most), api.Valid))
	}
}

// P11.3: the indexes of trees of MaxNodes nodes, a chain, a star and one in between.
func TestGreatTrees(t *testing.T) {
	n := api.MaxNodes
	x := chain(n)
	if got := Depth(x, n-1); got != n {
		t.Errorf("Depth in a chain: got %d", got)
	}
	if got := Leaves(x); !slices.Equal(got, []int{n - 1}) {
		t.Errorf("Leaves of a chain: got %d", got)
	}
	if got := Find(x, numbered(n-1)); got != n-1 {
		t.Errorf("Find in a chain: got %d", got)
	}
	star := grow(make([]int, n-1)...)
	if got := Children(star, 0); len(got) != n-1 || got[0] != 1 || got[n-2] != n-1 || !slices.Equal(got, Leaves(star)) {
		t.Errorf("a star has %d children", len(got))
	}
	ups := make([]int, n-1)
	for i := range ups {
		ups[i] = i / 2
	}
	heap := grow(ups...)
	if got := Children(heap, n/2-1); !slices.Equal(got, []int{n - 1}) {
		t.Errorf("Children: got %d", got)
	}
	if got := Leaves(heap); len(got) != n/2 || got[0] != n/2 {
		t.Errorf("Leaves: got %d of them", len(got))
	}
	for _, y := range []api.Tree{x, star, heap} {
		if e := Validate(y); e != api.OK {
			t.Errorf("Validate: got %d", e)
		}
	}
}

// P11.4, P11.3, P11.2: random trees that grow by Insert are as the nodes that are inserted, and valid.
func TestRandomTrees(t *testing.T) {
	random := rand.New(rand.NewSource(1))
	for range 50 {
		first := whole(numbered(0), zero, uint64(random.Intn(3)))
		x, want := New(first, api.Valid), []api.Node{node(-1, api.Valid, first)}
		for i := 1; i < 40; i++ {
			up, status := random.Intn(i), random.Intn(3)
			y := whole(numbered(i), want[up].Root, want[up].Slot+1+uint64(random.Intn(3)))
			x = insert(t, x, y, status)
			want = append(want, node(up, status, y))
		}
		checkTree(t, x, want...)
		checkShape(t, x)
		if e := Validate(x); e != api.OK {
			t.Fatalf("Validate: got %d", e)
		}
	}
}
