package blocktree

import (
	"slices"
	"testing"

	"forkhead/api"
)

// spacious returns a tree with three nodes and, in the spare capacity, three more; all is the slice of all six.
func spacious() (x api.Tree, all []api.Node) {
	all = grow(0, 1, 0, 3, 3).Nodes
	return treeOf(all[:3:6]...), all
}

// R2: no function modifies the tree that it is given, nor its spare capacity.
func TestArgumentsStayAsTheyAre(t *testing.T) {
	x, all := spacious()
	before := slices.Clone(all)
	checkShape(t, x)
	checkValidate(t, api.OK, x)
	checkInsert(t, api.OK, x, block(a, numbered(2), 9), api.Valid)
	checkInsert(t, api.OK, x, block(numbered(3), numbered(0), 9), api.Valid)
	checkInsert(t, api.ErrForm, x, block(a, numbered(2), 9), 3)
	checkInsert(t, api.ErrDuplicate, x, block(numbered(2), numbered(0), 9), api.Valid)
	checkInsert(t, api.ErrUnknown, x, block(a, numbered(3), 9), api.Valid)
	checkInsert(t, api.ErrSlot, x, block(a, numbered(0), 1), api.Valid)
	checkTree(t, treeOf(all...), before...)
}

// R2: a faulty tree stays as it is, too.
func TestFaultyTreesStayAsTheyAre(t *testing.T) {
	x, all := spacious()
	for _, spoil := range []func(n *api.Node){
		func(n *api.Node) { n.Slot = 0 },
		func(n *api.Node) { n.Parent = b },
		func(n *api.Node) { n.Root = numbered(0) },
		func(n *api.Node) { n.Up = 7 },
	} {
		spoil(&all[2])
		before := slices.Clone(all)
		if e := Validate(x); e == api.OK {
			t.Error("Validate: got no error")
		}
		checkTree(t, treeOf(all...), before...)
	}
}

// R2: a tree shares no memory with the one that it came from, with or without spare capacity.
func TestInsertReturnsNewMemory(t *testing.T) {
	spare, _ := spacious()
	for _, x := range []api.Tree{spare, grow(0, 1), New(block(numbered(0), zero, 1), api.Valid)} {
		given := slices.Clone(x.Nodes)
		y := insert(t, x, whole(a, numbered(0), 5), api.Optimistic)
		want := append(slices.Clone(given), node(0, api.Optimistic, whole(a, numbered(0), 5)))
		clear(y.Nodes)
		_ = append(y.Nodes[:1], node(7, 7, whole(b, b, 7)))
		checkTree(t, x, given...)
		y = insert(t, x, whole(a, numbered(0), 5), api.Optimistic)
		clear(x.Nodes[:cap(x.Nodes)])
		checkTree(t, y, want...)
	}
}

// R2: trees that come from one tree, or from one another, are separate.
func TestTreesAreSeparate(t *testing.T) {
	x := New(block(a, zero, 1), api.Valid)
	for i := range 20 {
		first := insert(t, x, whole(b, a, 5), api.Optimistic)
		second := insert(t, x, whole(c, a, 6), api.Invalid)
		third := insert(t, first, whole(c, b, 7), api.Valid)
		fourth := insert(t, first, whole(d, b, 8), api.Optimistic)
		checkTree(t, first, append(slices.Clone(x.Nodes), node(0, api.Optimistic, whole(b, a, 5)))...)
		checkTree(t, second, append(slices.Clone(x.Nodes), node(0, api.Invalid, whole(c, a, 6)))...)
		up := len(x.Nodes)
		checkTree(t, third, append(slices.Clone(first.Nodes), node(up, api.Valid, whole(c, b, 7)))...)
		checkTree(t, fourth, append(slices.Clone(first.Nodes), node(up, api.Optimistic, whole(d, b, 8)))...)
		x = insert(t, x, block(numbered(i), a, 2), api.Valid)
	}
}

// R2, R3: two new trees of one block are separate.
func TestNewReturnsNewMemory(t *testing.T) {
	first, second := New(whole(a, b, 7), api.Valid), New(whole(a, b, 7), api.Valid)
	clear(first.Nodes)
	checkTree(t, second, node(-1, api.Valid, whole(a, b, 7)))
	checkTree(t, New(whole(a, b, 7), api.Valid), node(-1, api.Valid, whole(a, b, 7)))
}

// R2, R3: lists of indexes are new memory in every call.
func TestListsAreNewMemory(t *testing.T) {
	x := grow(0, 0, 0, 1, 1)
	lists := []func() []int{
		func() []int { return Children(x, 0) },
		func() []int { return Children(x, 1) },
		func() []int { return Leaves(x) },
	}
	wants := [][]int{{1, 2, 3}, {4, 5}, {2, 3, 4, 5}}
	for i, list := range lists {
		first, second := list(), list()
		for j := range first[:cap(first)] {
			first[:cap(first)][j] = 77
		}
		if !slices.Equal(second, wants[i]) || !slices.Equal(list(), wants[i]) {
			t.Errorf("list %d became %d, then %d", i, second, list())
		}
		clear(second)
	}
	checkTree(t, x, grow(0, 0, 0, 1, 1).Nodes...)
}
