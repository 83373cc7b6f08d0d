package status

import (
	"math"
	"slices"
	"strings"
	"testing"

	"forkhead/api"
	"forkhead/blocktree"
)

// names are the letters of the statuses, in the order of their numbers.
const names = "ovx"

// shape are the parents of a tree in which 0 has the children 1, 2 and 7, 1 has 3 and 4, 2 has 5, 3 has 6.
var shape = []int{-1, 0, 0, 1, 1, 2, 3, 0}

// strange are numbers that are no index of any tree.
var strange = []int{math.MinInt, -1 << 32, -2, -1, api.MaxNodes + 1, 1 << 32, math.MaxInt}

// numbered returns the root with the number n.
func numbered(n int) api.Root {
	return api.Root{0: 9, 15: byte(n), 16: byte(n >> 8)}
}

// block returns a block none of whose fields is zero.
func block(root, parent api.Root, slot uint64) api.Block {
	return api.Block{
		Pulled: api.Pulled{PulledJustified: api.Checkpoint{Epoch: 1}, PulledFinalized: api.Checkpoint{Epoch: 2}},
		Slot:   slot, Root: root, Parent: parent, Payload: api.Root{5: 1},
		Difficulty: api.Wide{1, 2, 3, 4}, ParentDifficulty: api.Wide{5, 6, 7, 8},
		Justified: api.Checkpoint{Epoch: 3}, Finalized: api.Checkpoint{Epoch: 4}, Timely: true,
	}
}

// tree returns the valid tree in which node i has the parent ups[i] and the status with the letter statuses[i].
func tree(ups []int, statuses string) api.Tree {
	x := api.Tree{}
	for i, up := range ups {
		slot := uint64(7)
		if i > 0 {
			slot = x.Nodes[up].Slot + 2
		}
		n := api.Node{Block: block(numbered(i), numbered(up), slot), Up: up, Status: strings.IndexByte(names, statuses[i])}
		x.Nodes = append(x.Nodes, n)
	}
	return x
}

// statusesOf returns the letters of the statuses of a tree.
func statusesOf(x api.Tree) string {
	b := []byte{}
	for _, n := range x.Nodes {
		b = append(b, names[n.Status])
	}
	return string(b)
}

// chain returns the parents of a tree with n nodes and one leaf.
func chain(n int) []int {
	ups := make([]int, n)
	for i := range ups {
		ups[i] = i - 1
	}
	return ups
}

// star returns the parents of a tree with n nodes, all of them but node 0 children of node 0.
func star(n int) []int {
	ups := make([]int, n)
	ups[0] = -1
	return ups
}

// isUnder reports whether node i is a descendant of node a.
func isUnder(x api.Tree, i, a int) bool {
	return i == a || i > 0 && isUnder(x, x.Nodes[i].Up, a)
}

// isClosed is the definition in P16.1, by all pairs of an ancestor and a descendant.
func isClosed(x api.Tree) bool {
	for i := range x.Nodes {
		for a := range x.Nodes {
			upper, lower := x.Nodes[a].Status, x.Nodes[i].Status
			if isUnder(x, i, a) && (lower == api.Valid && upper != api.Valid || upper == api.Invalid && lower != api.Invalid) {
				return false
			}
		}
	}
	return true
}

// words returns all words of n letters of statuses.
func words(n int) []string {
	l := []string{""}
	for range n {
		longer := []string{}
		for _, word := range l {
			for _, letter := range names {
				longer = append(longer, word+string(letter))
			}
		}
		l = longer
	}
	return l
}

// shapes returns the parents of all trees with n nodes.
func shapes(n int) [][]int {
	l := [][]int{{-1}}
	for size := 1; size < n; size++ {
		larger := [][]int{}
		for _, ups := range l {
			for up := range ups {
				larger = append(larger, append(slices.Clone(ups), up))
			}
		}
		l = larger
	}
	return l
}

// smallTrees returns the trees of up to five nodes of every shape with all statuses, whether closed or not.
func smallTrees() []api.Tree {
	l := []api.Tree{}
	for n := 1; n <= 5; n++ {
		for _, ups := range shapes(n) {
			for _, word := range words(n) {
				l = append(l, tree(ups, word))
			}
		}
	}
	return l
}

// checkValidate checks the error of Validate, and that the tree stays as it is.
func checkValidate(t *testing.T, want api.Errno, x api.Tree) {
	t.Helper()
	before := slices.Clone(x.Nodes)
	if e := Validate(x); e != want {
		t.Fatalf("Validate(%v): got %d, want %d", x, e, want)
	}
	if !slices.Equal(x.Nodes, before) {
		t.Fatalf("the tree became %v, from %v", x, before)
	}
}

// P16.1: closed trees, by hand.
func TestValidateClosedTrees(t *testing.T) {
	for _, word := range []string{
		"oooooooo", "vooooooo", "vvvvvvvv", "xxxxxxxx", "vxxxxxxx", "vvvvvvvo", "vvovooov", "vvovxxvv", "voxooxoo", "ooxoxxoo", "ooooooxx",
		"vvvxoxxv", "oxoxxoxo", "vvvvvovx", "vvvvvxvo",
	} {
		checkValidate(t, api.OK, tree(shape, word))
	}
}

// P16.1: trees with one fault, by hand: the pairs of statuses that a parent and its child may not have, at several places.
func TestValidateTreesThatAreNotClosed(t *testing.T) {
	for _, word := range []string{
		// A valid node whose parent is optimistic.
		"ovoooooo", "ooooooov", "vvooovoo", "vooovooo", "vvoooovo",
		// A valid node whose parent is invalid.
		"xxxxxxxv", "vvvxvvvv", "vvxvvvvv", "vxoxvoxo", "xxvxxvxx",
		// An optimistic node whose parent is invalid.
		"xxxxxxxo", "xxxxxoxx", "vxooxoxo", "vvvxvvov", "voxooooo",
	} {
		checkValidate(t, api.ErrInvalid, tree(shape, word))
	}
}

// P16.1: node 0 has no parent, so that a tree of one node may have any status.
func TestValidateOneNode(t *testing.T) {
	for _, word := range words(1) {
		checkValidate(t, api.OK, tree([]int{-1}, word))
		checkValidate(t, api.OK, blocktree.New(api.Block{}, strings.Index(names, word)))
	}
}

// P16.1: all small trees.
func TestValidateSmallTrees(t *testing.T) {
	closed := 0
	for _, x := range smallTrees() {
		want := api.ErrInvalid
		if isClosed(x) {
			want = api.OK
			closed++
		}
		checkValidate(t, want, x)
	}
	if closed == 0 {
		t.Error("no tree is closed")
	}
}

// P16.1, R6: every error of blocktree.Validate comes before ErrInvalid, also where the faulty node is behind.
func TestErrorsOfTheTreeComeFirst(t *testing.T) {
	checkValidate(t, api.ErrFull, api.Tree{})
	checkValidate(t, api.ErrFull, api.Tree{Nodes: []api.Node{}})
	spoils := []struct {
		spoil func(n *api.Node)
		e     api.Errno
	}{
		{func(n *api.Node) {}, api.OK},
		{func(n *api.Node) { n.Status = 3 }, api.ErrForm},
		{func(n *api.Node) { n.Status = -1 }, api.ErrForm},
		{func(n *api.Node) { n.Status = math.MaxInt }, api.ErrForm},
		{func(n *api.Node) { n.Up = 7 }, api.ErrForm},
		{func(n *api.Node) { n.Up = -1 }, api.ErrForm},
		{func(n *api.Node) { n.Up = math.MinInt }, api.ErrForm},
		{func(n *api.Node) { n.Root = numbered(2) }, api.ErrDuplicate},
		{func(n *api.Node) { n.Parent = numbered(1) }, api.ErrUnknown},
		{func(n *api.Node) { n.Slot = 7 }, api.ErrSlot},
	}
	for _, c := range spoils {
		closed, open := tree(shape, "vvovoovx"), tree(shape, "oxvoxooo")
		c.spoil(&closed.Nodes[7])
		checkValidate(t, c.e, closed)
		want := c.e
		if want == api.OK {
			want = api.ErrInvalid
		}
		c.spoil(&open.Nodes[7])
		checkValidate(t, want, open)
	}
}

// P16.1: trees of MaxNodes nodes with a fault at the end or nowhere, and trees with one node more.
func TestValidateGreatTrees(t *testing.T) {
	n := api.MaxNodes
	for _, ups := range [][]int{chain(n), star(n)} {
		checkValidate(t, api.OK, tree(ups, strings.Repeat("v", n)))
		checkValidate(t, api.OK, tree(ups, strings.Repeat("v", n-1)+"x"))
		checkValidate(t, api.OK, tree(ups, strings.Repeat("x", n)))
		checkValidate(t, api.OK, tree(ups, strings.Repeat("o", n-1)+"x"))
		checkValidate(t, api.ErrInvalid, tree(ups, strings.Repeat("o", n-1)+"v"))
		checkValidate(t, api.ErrInvalid, tree(ups, strings.Repeat("x", n-1)+"o"))
		checkValidate(t, api.ErrInvalid, tree(ups, "o"+strings.Repeat("v", n-1)))
	}
	checkValidate(t, api.OK, tree(chain(n), strings.Repeat("v", n/2)+strings.Repeat("o", n/4)+strings.Repeat("x", n/4)))
	checkValidate(t, api.ErrFull, tree(chain(n+1), strings.Repeat("v", n+1)))
	checkValidate(t, api.ErrFull, tree(star(n+1), "o"+strings.Repeat("v", n)))
}
