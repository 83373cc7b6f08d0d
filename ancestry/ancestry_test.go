package ancestry

import (
	"math"
	"math/rand"
	"slices"
	"testing"

	"forkhead/api"
	"forkhead/blocktree"
)

// most is the greatest number.
const most = math.MaxUint64

// strange are numbers that are no index of any tree.
var strange = []int{math.MinInt, -1 << 32, -2, -1, api.MaxNodes, 1 << 32, math.MaxInt}

// numbered returns the root with the number n.
func numbered(n int) api.Root {
	return api.Root{0: 9, 15: byte(n), 16: byte(n >> 8)}
}

// node returns a node with a numbered root; the parent of node 0 is the root of another one, which a valid tree allows.
func node(i, up int, slot uint64) api.Node {
	b := api.Block{Root: numbered(i), Parent: numbered(max(up, -up)), Slot: slot}
	return api.Node{Block: b, Up: up, Status: i % 3}
}

// grow returns the valid tree whose node i + 1 has the parent ups[i]; the slot of a node is 5 and twice its depth.
func grow(ups ...int) api.Tree {
	x := api.Tree{Nodes: []api.Node{node(0, -1, 7)}}
	for i, up := range ups {
		x.Nodes = append(x.Nodes, node(i+1, up, x.Nodes[up].Slot+2))
	}
	return x
}

// chain returns the valid tree with n nodes and one leaf.
func chain(n int) api.Tree {
	ups := make([]int, n-1)
	for i := range ups {
		ups[i] = i
	}
	return grow(ups...)
}

// bush returns a tree in which 0 has the children 1, 2 and 6, 1 has 3 and 5, 3 has 7, 2 has 4, 4 has 8 and 9.
func bush() api.Tree {
	return grow(0, 0, 1, 2, 1, 0, 3, 4, 4)
}

// places returns all indexes of nodes, and numbers that are none.
func places(x api.Tree) []int {
	l := append([]int{len(x.Nodes), len(x.Nodes) + 1}, strange...)
	for i := range x.Nodes {
		l = append(l, i)
	}
	return l
}

// pathTo is P12.1 for Path.
func pathTo(x api.Tree, i int) []int {
	if i < 0 || i >= len(x.Nodes) {
		return nil
	}
	return append(pathTo(x, x.Nodes[i].Up), i)
}

// lastOf returns the last element of l for which the function holds, or -1.
func lastOf(l []int, holds func(i int) bool) int {
	last := -1
	for _, i := range l {
		if holds(i) {
			last = i
		}
	}
	return last
}

// atOf is P12.2.
func atOf(x api.Tree, i int, slot uint64) int {
	return lastOf(pathTo(x, i), func(j int) bool { return x.Nodes[j].Slot <= slot })
}

// commonOf is P12.3 for arguments that begin with first.
func commonOf(x api.Tree, first int, others ...int) int {
	return lastOf(pathTo(x, first), func(j int) bool {
		return !slices.ContainsFunc(others, func(i int) bool { return !slices.Contains(pathTo(x, i), j) })
	})
}

// descendantsOf is P12.4.
func descendantsOf(x api.Tree, i int) []int {
	l := []int{}
	for j := range x.Nodes {
		if slices.Contains(pathTo(x, j), i) {
			l = append(l, j)
		}
	}
	return l
}

// heirOf is P12.5.
func heirOf(x api.Tree, a, b int) int {
	return lastOf(pathTo(x, b), func(j int) bool { return a >= 0 && x.Nodes[j].Up == a })
}

// checkPair checks what the functions of two indexes return for a valid tree.
func checkPair(t *testing.T, x api.Tree, a, b int) {
	t.Helper()
	if got, want := IsAncestor(x, a, b), slices.Contains(pathTo(x, b), a); got != want {
		t.Fatalf("IsAncestor(%d, %d): got %t", a, b, got)
	}
	if got, want := Heir(x, a, b), heirOf(x, a, b); got != want {
		t.Fatalf("Heir(%d, %d): got %d, want %d", a, b, got, want)
	}
	if got, want := Common(x, a, b), commonOf(x, a, b); got != want {
		t.Fatalf("Common(%d, %d): got %d, want %d", a, b, got, want)
	}
}

// checkNode checks what the functions of one index return for a valid tree.
func checkNode(t *testing.T, x api.Tree, i int) {
	t.Helper()
	if got, want := Path(x, i), pathTo(x, i); !slices.Equal(got, want) {
		t.Fatalf("Path(%d): got %d, want %d", i, got, want)
	}
	if got, want := Descendants(x, i), descendantsOf(x, i); !slices.Equal(got, want) {
		t.Fatalf("Descendants(%d): got %d, want %d", i, got, want)
	}
	if got, want := Common(x, i), commonOf(x, i); got != want {
		t.Fatalf("Common(%d): got %d, want %d", i, got, want)
	}
	slots := []uint64{0, 1, most - 1, most}
	for _, j := range pathTo(x, i) {
		slot := x.Nodes[j].Slot
		slots = append(slots, slot-1, slot, slot+1)
	}
	for _, slot := range slots {
		if got, want := At(x, i, slot), atOf(x, i, slot); got != want {
			t.Fatalf("At(%d, %d): got %d, want %d", i, slot, got, want)
		}
	}
}

// checkAll checks what all functions return for a valid tree.
func checkAll(t *testing.T, x api.Tree) {
	t.Helper()
	if e := blocktree.Validate(x); e != api.OK {
		t.Fatalf("Validate: got %d", e)
	}
	for _, a := range places(x) {
		checkNode(t, x, a)
		for _, b := range places(x) {
			checkPair(t, x, a, b)
		}
	}
	if got := Common(x); got != -1 {
		t.Fatalf("Common without arguments: got %d", got)
	}
}

// P12.1: the paths in one tree, by hand.
func TestPath(t *testing.T) {
	wants := [][]int{{0}, {0, 1}, {0, 2}, {0, 1, 3}, {0, 2, 4}, {0, 1, 5}, {0, 6}, {0, 1, 3, 7}, {0, 2, 4, 8}, {0, 2, 4, 9}}
	for i, want := range wants {
		if got := Path(bush(), i); !slices.Equal(got, want) {
			t.Errorf("Path(%d): got %d, want %d", i, got, want)
		}
	}
	for _, i := range append([]int{10, 11}, strange...) {
		if got := Path(bush(), i); len(got) != 0 {
			t.Errorf("Path(%d): got %d", i, got)
		}
	}
}

// P12.1: the ancestors in one tree, by hand; a node is one of itself, and numbers that are no index are none of anything.
func TestIsAncestor(t *testing.T) {
	wants := [][]int{{0}, {0, 1}, {0, 2}, {0, 1, 3}, {0, 2, 4}, {0, 1, 5}, {0, 6}, {0, 1, 3, 7}, {0, 2, 4, 8}, {0, 2, 4, 9}}
	for b, want := range wants {
		for _, a := range places(bush()) {
			if got := IsAncestor(bush(), a, b); got != slices.Contains(want, a) {
				t.Errorf("IsAncestor(%d, %d): got %t", a, b, got)
			}
		}
	}
	for _, i := range append([]int{10, 11}, strange...) {
		for _, j := range places(bush()) {
			if IsAncestor(bush(), i, j) || IsAncestor(bush(), j, i) {
				t.Errorf("%d is related to %d", i, j)
			}
		}
	}
}

// P12.2: the slots of nodes, below and above them.
func TestAt(t *testing.T) {
	x := bush()
	cases := []struct {
		i    int
		slot uint64
		want int
	}{
		{7, 0, -1}, {7, 6, -1}, {7, 7, 0}, {7, 8, 0}, {7, 9, 1}, {7, 10, 1}, {7, 11, 3}, {7, 12, 3}, {7, 13, 7}, {7, 14, 7}, {7, most, 7},
		{9, 12, 4}, {8, 13, 8}, {9, 13, 9}, {0, 6, -1}, {0, 7, 0}, {0, most, 0}, {6, 8, 0}, {6, 9, 6}, {6, most, 6},
		{10, 7, -1}, {10, most, -1}, {-1, 0, -1}, {-1, most, -1}, {math.MinInt, most, -1}, {math.MaxInt, most, -1},
	}
	for _, c := range cases {
		if got := At(x, c.i, c.slot); got != c.want {
			t.Errorf("At(%d, %d): got %d, want %d", c.i, c.slot, got, c.want)
		}
	}
}

// P12.2: slots at both ends of their type.
func TestAtWithGreatSlots(t *testing.T) {
	x := api.Tree{Nodes: []api.Node{node(0, -1, 0), node(1, 0, 1), node(2, 1, 1<<63), node(3, 2, most)}}
	for slot, want := range map[uint64]int{0: 0, 1: 1, 2: 1, 1<<63 - 1: 1, 1 << 63: 2, 1<<63 + 1: 2, most - 1: 2, most: 3} {
		if got := At(x, 3, slot); got != want {
			t.Errorf("At(3, %d): got %d, want %d", slot, got, want)
		}
	}
	checkAll(t, x)
}

// P12.2, P12.5: the chapter's example.
func TestExample(t *testing.T) {
	x := api.Tree{Nodes: []api.Node{node(0, -1, 0), node(1, 0, 3), node(2, 1, 5)}}
	if got := At(x, 2, 4); got != 1 {
		t.Errorf("At: got %d", got)
	}
	if got := Heir(x, 0, 2); got != 1 {
		t.Errorf("Heir: got %d", got)
	}
	checkAll(t, x)
}

// P12.3: lists of nodes in any order, with repetitions, and lists with an element that is no node.
func TestCommon(t *testing.T) {
	x := bush()
	cases := []struct {
		l    []int
		want int
	}{
		{nil, -1}, {[]int{}, -1}, {[]int{0}, 0}, {[]int{9}, 9}, {[]int{7, 7, 7}, 7},
		{[]int{7, 5}, 1}, {[]int{5, 7}, 1}, {[]int{8, 9}, 4}, {[]int{7, 3}, 3}, {[]int{3, 7}, 3}, {[]int{7, 3, 5}, 1}, {[]int{7, 1, 5, 3}, 1},
		{[]int{7, 8}, 0}, {[]int{6, 9}, 0}, {[]int{8, 9, 2}, 2}, {[]int{8, 9, 8, 4}, 4}, {[]int{8, 9, 6}, 0}, {[]int{7, 5, 8}, 0},
		{[]int{9, 0}, 0}, {[]int{0, 9}, 0}, {[]int{0, 1, 2, 3, 4, 5, 6, 7, 8, 9}, 0}, {[]int{9, 8, 4, 2}, 2}, {[]int{7, 0, 7}, 0},
		{[]int{10}, -1}, {[]int{-1}, -1}, {[]int{-1, 4}, -1}, {[]int{4, -1}, -1}, {[]int{4, 10, 4}, -1}, {[]int{10, 10}, -1},
		{[]int{0, 10}, -1}, {[]int{0, -1}, -1}, {[]int{7, 8, -1, 9}, -1}, {[]int{math.MaxInt, 3}, -1}, {[]int{3, math.MinInt}, -1},
	}
	for _, c := range cases {
		if got := Common(x, c.l...); got != c.want {
			t.Errorf("Common(%d): got %d, want %d", c.l, got, c.want)
		}
	}
}

// P12.4: the descendants in one tree, by hand.
func TestDescendants(t *testing.T) {
	wants := [][]int{{0, 1, 2, 3, 4, 5, 6, 7, 8, 9}, {1, 3, 5, 7}, {2, 4, 8, 9}, {3, 7}, {4, 8, 9}, {5}, {6}, {7}, {8}, {9}}
	for i, want := range wants {
		if got := Descendants(bush(), i); !slices.Equal(got, want) {
			t.Errorf("Descendants(%d): got %d, want %d", i, got, want)
		}
	}
	for _, i := range append([]int{10, 11}, strange...) {
		if got := Descendants(bush(), i); len(got) != 0 {
			t.Errorf("Descendants(%d): got %d", i, got)
		}
	}
}

// P12.5: all heirs in one tree, by hand; all other pairs have none.
func TestHeir(t *testing.T) {
	x := bush()
	wants := map[[2]int]int{
		{0, 1}: 1, {0, 2}: 2, {0, 3}: 1, {0, 4}: 2, {0, 5}: 1, {0, 6}: 6, {0, 7}: 1, {0, 8}: 2, {0, 9}: 2,
		{1, 3}: 3, {1, 5}: 5, {1, 7}: 3, {2, 4}: 4, {2, 8}: 4, {2, 9}: 4, {3, 7}: 7, {4, 8}: 8, {4, 9}: 9,
	}
	for _, a := range places(x) {
		for _, b := range places(x) {
			want, hasHeir := wants[[2]int{a, b}]
			if !hasHeir {
				want = -1
			}
			if got := Heir(x, a, b); got != want {
				t.Errorf("Heir(%d, %d): got %d, want %d", a, b, got, want)
			}
		}
	}
}

// P12.1 to P12.5: small trees of every shape.
func TestSmallTrees(t *testing.T) {
	trees := []api.Tree{grow()}
	for size := 2; size <= 5; size++ {
		larger := []api.Tree{}
		for _, x := range trees {
			for up := range x.Nodes {
				last := node(size-1, up, x.Nodes[up].Slot+uint64(size))
				larger = append(larger, api.Tree{Nodes: append(slices.Clone(x.Nodes), last)})
			}
		}
		trees = larger
		for _, x := range trees {
			checkAll(t, x)
		}
	}
	if len(trees) != 24 {
		t.Errorf("there are %d trees of five nodes", len(trees))
	}
}

// P12.1 to P12.5: random trees, and P12.3 for random lists.
func TestRandomTrees(t *testing.T) {
	random := rand.New(rand.NewSource(1))
	for round := range 40 {
		x := grow()
		for i := 1; i < 30; i++ {
			// The later rounds have longer paths.
			up := max(random.Intn(i), i-1-random.Intn(40-round))
			x.Nodes = append(x.Nodes, node(i, up, x.Nodes[up].Slot+1+uint64(random.Intn(3))))
		}
		checkAll(t, x)
		for range 50 {
			l := make([]int, 1+random.Intn(5))
			for i := range l {
				l[i] = random.Intn(30)
			}
			if got, want := Common(x, l...), commonOf(x, l[0], l[1:]...); got != want {
				t.Fatalf("Common(%d): got %d, want %d", l, got, want)
			}
		}
	}
}

// P12.1 to P12.5: a chain of MaxNodes nodes.
func TestGreatChain(t *testing.T) {
	n := api.MaxNodes
	x := chain(n)
	all := make([]int, n)
	for i := range all {
		all[i] = i
	}
	if !slices.Equal(Path(x, n-1), all) || !slices.Equal(Descendants(x, 0), all) || !slices.Equal(Descendants(x, n/2), all[n/2:]) {
		t.Error("path or descendants")
	}
	if got := At(x, n-1, x.Nodes[n/2].Slot+1); got != n/2 {
		t.Errorf("At: got %d", got)
	}
	if !IsAncestor(x, 0, n-1) || IsAncestor(x, n-1, 0) {
		t.Error("IsAncestor")
	}
	if got := Common(x, all...); got != 0 {
		t.Errorf("Common of all nodes: got %d", got)
	}
	if got := Common(x, all[n/2:]...); got != n/2 {
		t.Errorf("Common of the later nodes: got %d", got)
	}
	if got := Heir(x, 0, n-1); got != 1 {
		t.Errorf("Heir: got %d", got)
	}
}

// P12.1 to P12.5: a star of MaxNodes nodes.
func TestGreatStar(t *testing.T) {
	n := api.MaxNodes
	x := grow(make([]int, n-1)...)
	if !slices.Equal(Path(x, n-1), []int{0, n - 1}) || len(Descendants(x, 0)) != n || !slices.Equal(Descendants(x, n-1), []int{n - 1}) {
		t.Error("path or descendants")
	}
	if IsAncestor(x, n-2, n-1) || !IsAncestor(x, 0, n-1) {
		t.Error("IsAncestor")
	}
	if got := Common(x, n-1, n-2); got != 0 {
		t.Errorf("Common: got %d", got)
	}
	if got := Heir(x, 0, n-1); got != n-1 {
		t.Errorf("Heir: got %d", got)
	}
}

// R2: no function changes the tree, its spare capacity or a list.
func TestArgumentsStay(t *testing.T) {
	x := bush()
	n := len(x.Nodes)
	all := append(slices.Clone(x.Nodes), node(10, 4, 99), node(11, 10, 100))
	x.Nodes = all[:n]
	before := slices.Clone(all)
	list := []int{9, 8, 4, 77, 78}
	for _, i := range places(x) {
		checkNode(t, x, i)
		checkPair(t, x, i, 8)
		checkPair(t, x, 2, i)
	}
	if got := Common(x, list[:3]...); got != 4 {
		t.Errorf("Common: got %d", got)
	}
	if !slices.Equal(all, before) || !slices.Equal(list, []int{9, 8, 4, 77, 78}) {
		t.Errorf("got %v and %d", all, list)
	}
}

// R2, R3: lists of indexes are new memory in every call.
func TestListsAreNewMemory(t *testing.T) {
	x := bush()
	lists := []func() []int{
		func() []int { return Path(x, 9) },
		func() []int { return Path(x, 0) },
		func() []int { return Descendants(x, 1) },
		func() []int { return Descendants(x, 6) },
	}
	wants := [][]int{{0, 2, 4, 9}, {0}, {1, 3, 5, 7}, {6}}
	for i, list := range lists {
		first, second := list(), list()
		for j := range first[:cap(first)] {
			first[:cap(first)][j] = 77
		}
		if !slices.Equal(second, wants[i]) || !slices.Equal(list(), wants[i]) {
			t.Errorf("list %d became %d, then %d", i, second, list())
		}
	}
	if !slices.Equal(x.Nodes, bush().Nodes) {
		t.Error("the tree was changed")
	}
}
