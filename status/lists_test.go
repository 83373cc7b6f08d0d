package status

import (
	"math"
	"math/rand"
	"slices"
	"strings"
	"testing"

	"forkhead/api"
)

// P16.3: the optimistic nodes of some trees, by hand.
func TestWaiting(t *testing.T) {
	for word, want := range map[string][]int{
		"oooooooo": {0, 1, 2, 3, 4, 5, 6, 7},
		"vooooooo": {1, 2, 3, 4, 5, 6, 7},
		"vvovoovo": {2, 4, 5, 7},
		"vxoxxoxv": {2, 5},
		"vvvvvvov": {6},
		"oxxxxxxx": {0},
		"voooooox": {1, 2, 3, 4, 5, 6},
		"vvvvvvvv": nil,
		"xxxxxxxx": nil,
		"vvxxvxxv": nil,
	} {
		if got := Waiting(tree(shape, word)); !slices.Equal(got, want) {
			t.Errorf("%s: got %d, want %d", word, got, want)
		}
	}
}

// P16.3: the numbers of nodes in one tree, by hand: one status, several, repeated ones, none, and numbers that are no status.
func TestCount(t *testing.T) {
	x := tree(shape, "vvoxvxxo")
	cases := []struct {
		statuses []int
		want     int
	}{
		{[]int{api.Optimistic}, 2}, {[]int{api.Valid}, 3}, {[]int{api.Invalid}, 3},
		{[]int{api.Optimistic, api.Valid}, 5}, {[]int{api.Valid, api.Optimistic}, 5}, {[]int{api.Invalid, api.Optimistic}, 5},
		{[]int{api.Valid, api.Invalid}, 6}, {[]int{api.Optimistic, api.Valid, api.Invalid}, 8},
		{[]int{api.Valid, api.Valid}, 3}, {[]int{api.Valid, api.Optimistic, api.Valid, api.Optimistic}, 5},
		{[]int{2, 1, 0, 0, 1, 2, 2}, 8},
		{nil, 0}, {[]int{}, 0},
		{[]int{-1}, 0}, {[]int{3}, 0}, {[]int{9, -9}, 0}, {[]int{math.MinInt, math.MaxInt, 1 << 32, -1 << 32}, 0},
		{[]int{-1, api.Invalid, 3}, 3}, {[]int{1<<32 + api.Valid, api.Optimistic}, 2},
	}
	for _, c := range cases {
		if got := Count(x, c.statuses...); got != c.want {
			t.Errorf("Count(.., %d): got %d, want %d", c.statuses, got, c.want)
		}
	}
}

// checkLists checks Waiting and Count for a closed tree, with the letters of its statuses.
func checkLists(t *testing.T, x api.Tree) {
	t.Helper()
	word := statusesOf(x)
	waiting := []int{}
	for i, letter := range word {
		if letter == 'o' {
			waiting = append(waiting, i)
		}
	}
	if got := Waiting(x); !slices.Equal(got, waiting) {
		t.Fatalf("%s: Waiting: got %d", word, got)
	}
	o, v, bad := strings.Count(word, "o"), strings.Count(word, "v"), strings.Count(word, "x")
	for i, want := range [][2]int{
		{Count(x), 0}, {Count(x, 0), o}, {Count(x, 1), v}, {Count(x, 2), bad},
		{Count(x, 0, 1), o + v}, {Count(x, 2, 0), o + bad}, {Count(x, 1, 2, 1), v + bad}, {Count(x, 2, 1, 0), len(word)},
	} {
		if want[0] != want[1] {
			t.Fatalf("%s: count %d: got %d, want %d", word, i, want[0], want[1])
		}
	}
}

// P16.3: all small closed trees.
func TestListsOfSmallTrees(t *testing.T) {
	for _, x := range smallTrees() {
		if isClosed(x) {
			checkLists(t, x)
		}
	}
}

// P16.3: trees of MaxNodes nodes.
func TestListsOfGreatTrees(t *testing.T) {
	n, random, word := api.MaxNodes, rand.New(rand.NewSource(2)), []byte("v")
	for len(word) < n {
		word = append(word, names[random.Intn(len(names))])
	}
	for _, x := range []api.Tree{
		tree(star(n), string(word)),
		tree(chain(n), strings.Repeat("o", n)),
		tree(chain(n), strings.Repeat("v", n-1)+"o"),
		tree(chain(n), strings.Repeat("v", 100)+strings.Repeat("o", 200)+strings.Repeat("x", n-300)),
	} {
		checkValidate(t, api.OK, x)
		checkLists(t, x)
	}
}

// R2, R3: neither function changes its arguments or their spare capacity, and each list is new memory.
func TestListsAreNewMemory(t *testing.T) {
	all, statuses := tree(shape, "vvoxoooo").Nodes, []int{2, 0, 1, 1}
	x, before := api.Tree{Nodes: all[:5]}, slices.Clone(all)
	first, second := Waiting(x), Waiting(x)
	for i := range first[:cap(first)] {
		first[:cap(first)][i] = 77
	}
	if got := Count(x, statuses[:2]...); got != 3 {
		t.Errorf("Count: got %d", got)
	}
	if want := []int{2, 4}; !slices.Equal(second, want) || !slices.Equal(Waiting(x), want) {
		t.Errorf("Waiting: got %d, then %d", second, Waiting(x))
	}
	if !slices.Equal(all, before) || !slices.Equal(statuses, []int{2, 0, 1, 1}) {
		t.Errorf("the tree became %v, the statuses %d", all, statuses)
	}
}
