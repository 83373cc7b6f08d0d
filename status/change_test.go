package status

import (
	"math/rand"
	"slices"
	"strings"
	"testing"

	"forkhead/api"
)

// change is Raise or Condemn.
type change func(t api.Tree, i int) (api.Tree, api.Errno)

// changeCase is a call for a tree of the same shape: the result's statuses, or an error where want is empty.
type changeCase struct {
	statuses string
	i        int
	want     string
	e        api.Errno
}

// checkChange checks what a change of a closed tree returns, where no node is expected together with an error.
func checkChange(t *testing.T, f change, x api.Tree, i int, want []api.Node, e api.Errno) {
	t.Helper()
	before := slices.Clone(x.Nodes)
	got, gotE := f(x, i)
	if gotE != e || !slices.Equal(got.Nodes, want) {
		t.Fatalf("%s, node %d: got %s, %d, want %d", statusesOf(x), i, statusesOf(got), gotE, e)
	}
	if !slices.Equal(x.Nodes, before) {
		t.Fatalf("node %d: the tree became %v, from %v", i, x, before)
	}
	if e == api.OK {
		checkSteps(t, x, got)
	}
}

// checkSteps checks that y is closed and has no other changes against x than P16.2 and T2 allow.
func checkSteps(t *testing.T, x, y api.Tree) {
	t.Helper()
	if e := Validate(y); e != api.OK {
		t.Fatalf("%s, from %s: Validate: got %d", statusesOf(y), statusesOf(x), e)
	}
	// All pairs of a great tree would take minutes.
	if len(y.Nodes) < 100 && !isClosed(y) {
		t.Fatalf("%s, from %s: it is not closed", statusesOf(y), statusesOf(x))
	}
	for i, n := range y.Nodes {
		if old := x.Nodes[i]; old.Status != n.Status && old.Status != api.Optimistic {
			t.Fatalf("node %d: the status became %d, from %d", i, n.Status, old.Status)
		}
	}
}

// checkCases checks the results of a change of trees that have the shape.
func checkCases(t *testing.T, f change, cases ...changeCase) {
	t.Helper()
	for _, c := range cases {
		if c.e != api.OK {
			checkChange(t, f, tree(shape, c.statuses), c.i, nil, c.e)
			continue
		}
		checkChange(t, f, tree(shape, c.statuses), c.i, tree(shape, c.want).Nodes, api.OK)
	}
}

// P16.2: the chapter's example.
func TestExample(t *testing.T) {
	x := tree(chain(3), "voo")
	checkChange(t, Raise, x, 1, tree(chain(3), "vvo").Nodes, api.OK)
	checkChange(t, Condemn, x, 2, tree(chain(3), "vox").Nodes, api.OK)
	checkChange(t, Condemn, x, 0, nil, api.ErrContradiction)
}

// P16.2: Raise by hand: the ancestors become valid, the descendants and the other branches stay.
func TestRaise(t *testing.T) {
	checkCases(t, Raise,
		changeCase{"oooooooo", 0, "vooooooo", api.OK},
		changeCase{"oooooooo", 1, "vvoooooo", api.OK},
		changeCase{"oooooooo", 2, "vovooooo", api.OK},
		changeCase{"oooooooo", 4, "vvoovooo", api.OK},
		changeCase{"oooooooo", 5, "vovoovoo", api.OK},
		changeCase{"oooooooo", 6, "vvovoovo", api.OK},
		changeCase{"oooooooo", 7, "voooooov", api.OK},
		changeCase{"vvoooooo", 6, "vvovoovo", api.OK},
		changeCase{"voxooxox", 3, "vvxvoxox", api.OK},
		changeCase{"oooxxoxo", 1, "vvoxxoxo", api.OK},
		changeCase{"oxxxxxxo", 7, "vxxxxxxv", api.OK},
		changeCase{"vvovoovo", 6, "vvovoovo", api.OK},
		changeCase{"vvovoovo", 1, "vvovoovo", api.OK},
		changeCase{"vooooooo", 0, "vooooooo", api.OK},
		changeCase{"oxxxxxxx", 0, "vxxxxxxx", api.OK},
	)
}

// P16.2: Condemn by hand: the descendants become invalid, the ancestors and the other branches stay.
func TestCondemn(t *testing.T) {
	checkCases(t, Condemn,
		changeCase{"oooooooo", 0, "xxxxxxxx", api.OK},
		changeCase{"oooooooo", 1, "oxoxxoxo", api.OK},
		changeCase{"oooooooo", 2, "ooxooxoo", api.OK},
		changeCase{"oooooooo", 3, "oooxooxo", api.OK},
		changeCase{"oooooooo", 4, "ooooxooo", api.OK},
		changeCase{"oooooooo", 6, "ooooooxo", api.OK},
		changeCase{"oooooooo", 7, "ooooooox", api.OK},
		changeCase{"vvvovoov", 3, "vvvxvoxv", api.OK},
		changeCase{"vvvvvoov", 5, "vvvvvxov", api.OK},
		changeCase{"voooxoxo", 1, "vxoxxoxo", api.OK},
		changeCase{"vxoxxoxo", 1, "vxoxxoxo", api.OK},
		changeCase{"vxoxxoxo", 6, "vxoxxoxo", api.OK},
		changeCase{"xxxxxxxx", 0, "xxxxxxxx", api.OK},
		changeCase{"oooxxxxx", 0, "xxxxxxxx", api.OK},
	)
}

// P16.2: verdicts that contradict the statuses of the node, of its ancestors or of its descendants.
func TestContradictions(t *testing.T) {
	checkCases(t, Raise,
		changeCase{"xxxxxxxx", 0, "", api.ErrContradiction},
		changeCase{"xxxxxxxx", 6, "", api.ErrContradiction},
		changeCase{"vxoxxoxo", 1, "", api.ErrContradiction},
		changeCase{"vxoxxoxo", 3, "", api.ErrContradiction},
		changeCase{"vxoxxoxo", 4, "", api.ErrContradiction},
		changeCase{"oooxooxo", 6, "", api.ErrContradiction},
		changeCase{"ooooooox", 7, "", api.ErrContradiction},
	)
	checkCases(t, Condemn,
		changeCase{"vooooooo", 0, "", api.ErrContradiction},
		changeCase{"vvvvvvvv", 0, "", api.ErrContradiction},
		changeCase{"vvvvvvvv", 7, "", api.ErrContradiction},
		changeCase{"voooooov", 7, "", api.ErrContradiction},
		changeCase{"vvovoooo", 1, "", api.ErrContradiction},
		changeCase{"vvovoooo", 3, "", api.ErrContradiction},
		changeCase{"vvxxxxxx", 0, "", api.ErrContradiction},
	)
}

// P16.2, R6: an index that is no node is unknown, whatever the statuses are.
func TestUnknownNodes(t *testing.T) {
	for _, word := range []string{"oooooooo", "vvvvvvvv", "xxxxxxxx", "vvoooxoo", "oxoxxoxo"} {
		for _, i := range append([]int{8, 9}, strange...) {
			checkChange(t, Raise, tree(shape, word), i, nil, api.ErrUnknown)
			checkChange(t, Condemn, tree(shape, word), i, nil, api.ErrUnknown)
		}
	}
	for _, word := range words(1) {
		checkChange(t, Raise, tree(chain(1), word), 1, nil, api.ErrUnknown)
		checkChange(t, Condemn, tree(chain(1), word), -1, nil, api.ErrUnknown)
	}
}

// changed is P16.2: the nodes for which the function holds get the status, unless one of them has the opposite one.
func changed(x api.Tree, status, opposite int, holds func(j int) bool) ([]api.Node, api.Errno) {
	nodes := slices.Clone(x.Nodes)
	for j := range nodes {
		if holds(j) && nodes[j].Status == opposite {
			return nil, api.ErrContradiction
		}
		if holds(j) {
			nodes[j].Status = status
		}
	}
	return nodes, api.OK
}

// checkNode checks both changes of a closed tree at a node.
func checkNode(t *testing.T, x api.Tree, i int) {
	t.Helper()
	want, e := changed(x, api.Valid, api.Invalid, func(j int) bool { return isUnder(x, i, j) })
	checkChange(t, Raise, x, i, want, e)
	want, e = changed(x, api.Invalid, api.Valid, func(j int) bool { return isUnder(x, j, i) })
	checkChange(t, Condemn, x, i, want, e)
}

// P16.2: all nodes of all small closed trees.
func TestChangesOfSmallTrees(t *testing.T) {
	for _, x := range smallTrees() {
		if !isClosed(x) {
			continue
		}
		for i := range x.Nodes {
			checkNode(t, x, i)
		}
		checkChange(t, Raise, x, len(x.Nodes), nil, api.ErrUnknown)
		checkChange(t, Condemn, x, len(x.Nodes), nil, api.ErrUnknown)
	}
}

// P16.2, T2: random trees under one change after another.
func TestChangesOfRandomTrees(t *testing.T) {
	random := rand.New(rand.NewSource(1))
	for range 30 {
		ups := []int{-1}
		for i := 1; i < 30; i++ {
			ups = append(ups, max(random.Intn(i), random.Intn(i)))
		}
		x := tree(ups, strings.Repeat("o", len(ups)))
		for range 40 {
			i, f := random.Intn(len(ups)), []change{Raise, Condemn}[random.Intn(2)]
			checkNode(t, x, i)
			if y, e := f(x, i); e == api.OK {
				x = y
			}
		}
	}
}

// P16.2: trees of MaxNodes nodes.
func TestChangesOfGreatTrees(t *testing.T) {
	n := api.MaxNodes
	o, v, x := strings.Repeat("o", n-1), strings.Repeat("v", n-1), strings.Repeat("x", n-1)
	checkChange(t, Raise, tree(chain(n), o+"o"), n-1, tree(chain(n), v+"v").Nodes, api.OK)
	checkChange(t, Raise, tree(star(n), o+"o"), n-1, tree(star(n), "v"+o[1:]+"v").Nodes, api.OK)
	checkChange(t, Raise, tree(chain(n), o+"x"), n-1, nil, api.ErrContradiction)
	checkChange(t, Raise, tree(chain(n), o+"x"), n-2, tree(chain(n), v+"x").Nodes, api.OK)
	checkChange(t, Condemn, tree(chain(n), o+"o"), 0, tree(chain(n), x+"x").Nodes, api.OK)
	checkChange(t, Condemn, tree(star(n), o+"o"), 0, tree(star(n), x+"x").Nodes, api.OK)
	checkChange(t, Condemn, tree(chain(n), v+"o"), n-1, tree(chain(n), v+"x").Nodes, api.OK)
	checkChange(t, Condemn, tree(chain(n), v+"o"), n-2, nil, api.ErrContradiction)
	checkChange(t, Condemn, tree(chain(n), o+"o"), n, nil, api.ErrUnknown)
}

// checkMemory checks that the result of a change of a tree with spare capacity is new memory.
func checkMemory(t *testing.T, f change, c changeCase) {
	t.Helper()
	all := tree(shape, c.statuses+"ooo").Nodes
	x, before, want := api.Tree{Nodes: all[:5]}, slices.Clone(all), tree(shape[:5], c.want).Nodes
	checkChange(t, f, x, c.i, want, c.e)
	first, _ := f(x, c.i)
	second, _ := f(x, c.i)
	clear(first.Nodes[:cap(first.Nodes)])
	_ = append(second.Nodes, first.Nodes...)
	if !slices.Equal(all, before) || !slices.Equal(second.Nodes, want) {
		t.Errorf("%s, node %d: the tree became %v, the other result %v", c.statuses, c.i, all, second)
	}
	clear(all)
	if !slices.Equal(second.Nodes, want) {
		t.Errorf("%s, node %d: the result became %v", c.statuses, c.i, second)
	}
}

// R2, R3: the result of every change is new memory, also where nothing changes, and the tree's spare capacity stays.
func TestResultsAreNewMemory(t *testing.T) {
	checkMemory(t, Raise, changeCase{"ooooo", 3, "vvovo", api.OK})
	checkMemory(t, Raise, changeCase{"vvovo", 3, "vvovo", api.OK})
	checkMemory(t, Condemn, changeCase{"ooooo", 1, "oxoxx", api.OK})
	checkMemory(t, Condemn, changeCase{"vvovx", 4, "vvovx", api.OK})
}

// R2: a change that returns an error leaves the tree and its spare capacity as they are, also where it fails at a late node.
func TestErrorsLeaveTheTree(t *testing.T) {
	all := tree(shape, "vooxoooo").Nodes
	x, before := api.Tree{Nodes: all[:5]}, slices.Clone(all)
	checkChange(t, Raise, x, 3, nil, api.ErrContradiction)
	checkChange(t, Raise, x, 5, nil, api.ErrUnknown)
	checkChange(t, Condemn, x, 0, nil, api.ErrContradiction)
	checkChange(t, Condemn, x, 5, nil, api.ErrUnknown)
	if !slices.Equal(all, before) {
		t.Errorf("the tree became %v", all)
	}
}
