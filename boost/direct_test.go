package boost

import (
	"math/rand"
	"slices"
	"testing"

	"forkhead/api"
	"forkhead/blocktree"
)

// numbered returns the root with the number n; roots with different numbers have most bytes in common.
func numbered(n int) api.Root {
	return api.Root{0: 9, 15: byte(n), 16: byte(n >> 8)}
}

// node returns a node with a numbered root; its payload has the number of another one.
func node(i, up int, slot uint64) api.Node {
	b := api.Block{Root: numbered(i), Parent: numbered(max(up, -up)), Payload: numbered(1000 + i), Slot: slot}
	return api.Node{Block: b, Up: up, Status: i % 2}
}

// grow returns the valid tree whose node i + 1 has the parent ups[i]; no node is invalid.
func grow(ups ...int) api.Tree {
	x := api.Tree{Nodes: []api.Node{node(0, -1, 7)}}
	for i, up := range ups {
		x.Nodes = append(x.Nodes, node(i+1, up, x.Nodes[up].Slot+2))
	}
	return x
}

// withStatus returns the tree with this status at some nodes.
func withStatus(x api.Tree, status int, nodes ...int) api.Tree {
	for _, i := range nodes {
		x.Nodes[i].Status = status
	}
	return x
}

// checkDirect checks what Direct returns for a valid tree.
func checkDirect(t *testing.T, x api.Tree, direct []uint64, root api.Root, amount uint64, want ...uint64) {
	t.Helper()
	if e := blocktree.Validate(x); e != api.OK {
		t.Fatalf("Validate: got %d", e)
	}
	if got := Direct(x, direct, root, amount); !slices.Equal(got, want) {
		t.Errorf("Direct(.., %d, %x, %d): got %d, want %d", direct, root, amount, got, want)
	}
}

// P15.2: the boost counts for its own node alone, not for the ancestors or descendants.
func TestDirect(t *testing.T) {
	x := grow(0, 1, 0)
	checkDirect(t, x, []uint64{1, 2, 3, 4}, numbered(0), 10, 11, 2, 3, 4)
	checkDirect(t, x, []uint64{1, 2, 3, 4}, numbered(1), 10, 1, 12, 3, 4)
	checkDirect(t, x, []uint64{1, 2, 3, 4}, numbered(2), 10, 1, 2, 13, 4)
	checkDirect(t, x, []uint64{1, 2, 3, 4}, numbered(3), 10, 1, 2, 3, 14)
	checkDirect(t, x, []uint64{0, 0, 0, 0}, numbered(2), 5, 0, 0, 5, 0)
	checkDirect(t, grow(), []uint64{7}, numbered(0), 1, 8)
	checkDirect(t, x, []uint64{1, 2, 3, 4}, numbered(2), 0, 1, 2, 3, 4)
}

// P15.2: roots of no node: unknown ones, and those that blocks name in other fields.
func TestDirectOfUnknownRoots(t *testing.T) {
	x := grow(0, 1, 0)
	x.Nodes[0].Parent = numbered(77)
	x.Nodes[3].Justified.Root = numbered(88)
	last := numbered(1)
	last[31] = 1
	for _, root := range []api.Root{numbered(4), numbered(256), {8}, {0: 9, 31: 9}, last, {31: 9}, numbered(1001), numbered(77), numbered(88)} {
		checkDirect(t, x, []uint64{1, 2, 3, 4}, root, 10, 1, 2, 3, 4)
		checkDirect(t, grow(), []uint64{7}, root, 10, 7)
	}
}

// P15.2: a zero root boosts nothing, also if a node has this root.
func TestDirectOfZeroRoot(t *testing.T) {
	x := grow(0, 0)
	checkDirect(t, x, []uint64{1, 2, 3}, api.Root{}, 10, 1, 2, 3)
	for i := range x.Nodes {
		x := grow(0, 0)
		x.Nodes[i].Root = api.Root{}
		if i == 0 {
			x.Nodes[1].Parent, x.Nodes[2].Parent = api.Root{}, api.Root{}
		}
		checkDirect(t, x, []uint64{1, 2, 3}, api.Root{}, 10, 1, 2, 3)
		checkDirect(t, x, []uint64{1, 2, 3}, numbered(i), 10, 1, 2, 3)
	}
}

// P15.2: an invalid node gets no boost, an optimistic or valid one does, whatever the statuses of the others are.
func TestDirectOfStatuses(t *testing.T) {
	direct := []uint64{1, 2, 3, 4}
	for i := range direct {
		boosted := slices.Clone(direct)
		boosted[i] += 10
		for own, want := range [][]uint64{api.Optimistic: boosted, api.Valid: boosted, api.Invalid: direct} {
			for other := range 3 {
				x := withStatus(withStatus(grow(0, 1, 0), other, 0, 1, 2, 3), own, i)
				checkDirect(t, x, direct, numbered(i), 10, want...)
			}
		}
	}
}

// P15.2, R7: sums and amounts of MaxTotal.
func TestGreatDirect(t *testing.T) {
	x := grow(0, 0)
	checkDirect(t, x, []uint64{0, api.MaxTotal, 0}, numbered(1), api.MaxTotal, 0, 2*api.MaxTotal, 0)
	checkDirect(t, x, []uint64{0, api.MaxTotal, 0}, numbered(2), api.MaxTotal, 0, api.MaxTotal, api.MaxTotal)
	checkDirect(t, x, []uint64{1, 2, api.MaxTotal - 3}, numbered(2), api.MaxTotal-1, 1, 2, 2*api.MaxTotal-4)
	checkDirect(t, grow(), []uint64{api.MaxTotal}, numbered(0), api.MaxTotal, 2*api.MaxTotal)
	checkDirect(t, withStatus(x, api.Invalid, 1), []uint64{0, api.MaxTotal, 0}, numbered(1), api.MaxTotal, 0, api.MaxTotal, 0)
}

// P15.2: random trees as large as they may be, with one boost at each of some nodes.
func TestDirectOfGreatTrees(t *testing.T) {
	random := rand.New(rand.NewSource(2))
	ups, direct := make([]int, api.MaxNodes-1), make([]uint64, api.MaxNodes)
	for i := range ups {
		ups[i] = random.Intn(i + 1)
	}
	x := grow(ups...)
	for i := range direct {
		x.Nodes[i].Status = random.Intn(3)
		direct[i] = random.Uint64() % (api.MaxTotal / api.MaxNodes)
	}
	for _, i := range append(random.Perm(api.MaxNodes)[:200], 0, api.MaxNodes-1) {
		want, amount := slices.Clone(direct), random.Uint64()%(api.MaxTotal+1)
		if x.Nodes[i].Status != api.Invalid {
			want[i] += amount
		}
		if got := Direct(x, direct, numbered(i), amount); !slices.Equal(got, want) {
			t.Errorf("node %d: wrong weights", i)
		}
	}
	checkDirect(t, x, direct, numbered(api.MaxNodes), 10, direct...)
}

// P15.2: what the document leaves to the caller: a node without a number gets no boost, and further numbers stay.
func TestDirectOfOtherNumbers(t *testing.T) {
	x := grow(0, 0)
	checkDirect(t, x, nil, numbered(0), 10)
	checkDirect(t, x, []uint64{1, 2}, numbered(1), 10, 1, 12)
	checkDirect(t, x, []uint64{1, 2}, numbered(2), 10, 1, 2)
	checkDirect(t, x, []uint64{1, 2, 3, 4, 5}, numbered(2), 10, 1, 2, 13, 4, 5)
}

// R2: Direct does not change an argument or its spare capacity.
func TestArgumentsStay(t *testing.T) {
	nodes, numbers := withStatus(grow(0, 0, 1, 2, 1), api.Invalid, 2).Nodes, []uint64{1, 2, 3, 4, 5, 6}
	all := slices.Clone(nodes)
	x := api.Tree{Nodes: nodes[:4]}
	checkDirect(t, x, numbers[:4], numbered(3), 10, 1, 2, 3, 14)
	checkDirect(t, x, numbers[:4], numbered(2), 10, 1, 2, 3, 4)
	checkDirect(t, x, numbers[:4], numbered(4), 10, 1, 2, 3, 4)
	checkDirect(t, x, numbers[:4], api.Root{}, 10, 1, 2, 3, 4)
	if !slices.Equal(nodes, all) {
		t.Error("the tree was changed")
	}
	if !slices.Equal(numbers, []uint64{1, 2, 3, 4, 5, 6}) {
		t.Errorf("the numbers became %d", numbers)
	}
}

// R2, R3: the result is new memory in every call, with its spare capacity, also where nothing is added.
func TestResultsAreNewMemory(t *testing.T) {
	x, numbers := withStatus(grow(0, 0), api.Invalid, 2), []uint64{1, 2, 3, 4, 5}
	wants := map[api.Root][]uint64{
		numbered(1): {1, 12, 3},
		numbered(2): {1, 2, 3},
		numbered(3): {1, 2, 3},
		{}:          {1, 2, 3},
	}
	for root, want := range wants {
		first, second := Direct(x, numbers[:3], root, 10), Direct(x, numbers[:3], root, 10)
		for i := range first[:cap(first)] {
			first[:cap(first)][i] = 77
		}
		if !slices.Equal(second, want) || !slices.Equal(Direct(x, numbers[:3], root, 10), want) {
			t.Errorf("root %x: the result became %d", root, second)
		}
		if !slices.Equal(numbers, []uint64{1, 2, 3, 4, 5}) {
			t.Errorf("root %x: the numbers became %d", root, numbers)
		}
	}
}
