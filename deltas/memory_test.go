package deltas

import (
	"slices"
	"testing"

	"forkhead/api"
)

// R2, R5: no function changes an argument or its spare capacity, with or without an error.
func TestArgumentsStay(t *testing.T) {
	all := bush().Nodes
	x := api.Tree{Nodes: all[:5]}
	w, other := powers(9), slices.Repeat([]uint64{20}, 9)
	d, great := both(powers(9)...), plus(slices.Repeat([]uint64{most}, 9)...)
	checkMoves(t, x, w[:5], other[:5], plus(19, 18, 16, 12, 4)...)
	checkApply(t, x, w[:5], d[:5], powers(5)...)
	refuseApply(t, x, w[:5], great[:5], api.ErrOverflow)
	refuseApply(t, x, w[:4], d[:5], api.ErrForm)
	lists := [][]api.Delta{d[:5], d[:5], great[:5], great[:5]}
	checkMerge(t, x, both(2, 4, 8, 16, 32), lists[:2]...)
	refuseMerge(t, x, api.ErrOverflow, lists[2:]...)
	refuseMerge(t, x, api.ErrOverflow, lists...)
	refuseMerge(t, x, api.ErrForm, d[:5], d[:4])
	if !slices.Equal(all, bush().Nodes) {
		t.Error("the tree was changed")
	}
	if !slices.Equal(w, powers(9)) || !slices.Equal(other, slices.Repeat([]uint64{20}, 9)) {
		t.Errorf("the numbers became %d and %d", w, other)
	}
	if !slices.Equal(d, both(powers(9)...)) || !slices.Equal(great, plus(slices.Repeat([]uint64{most}, 9)...)) {
		t.Errorf("the deltas became %v and %v", d, great)
	}
	for i, want := range [][]api.Delta{d, d, great, great} {
		if len(lists[i]) != 5 || &lists[i][0] != &want[0] {
			t.Errorf("list %d was replaced", i)
		}
	}
}

// scribble overwrites a slice with its spare capacity.
func scribble[E any](l []E, with E) {
	for i := range l[:cap(l)] {
		l[:cap(l)][i] = with
	}
}

// R2, R3: lists of deltas are new memory in every call, with their spare capacity.
func TestDeltasAreNewMemory(t *testing.T) {
	x, w, d := bush(), powers(10), both(powers(10)...)
	cases := []struct {
		result func() ([]api.Delta, api.Errno)
		want   []api.Delta
	}{
		{func() ([]api.Delta, api.Errno) { return Moves(x, make([]uint64, 10), w), api.OK }, plus(powers(10)...)},
		{func() ([]api.Delta, api.Errno) { return Moves(x, w, w), api.OK }, make([]api.Delta, 10)},
		{func() ([]api.Delta, api.Errno) { return Merge(x) }, make([]api.Delta, 10)},
		{func() ([]api.Delta, api.Errno) { return Merge(x, d) }, both(powers(10)...)},
		{func() ([]api.Delta, api.Errno) { return Merge(x, d, make([]api.Delta, 10)) }, both(powers(10)...)},
	}
	for i, c := range cases {
		first, _ := c.result()
		second, _ := c.result()
		scribble(first, api.Delta{Plus: 77, Minus: 77})
		third, e := c.result()
		if e != api.OK || !slices.Equal(second, c.want) || !slices.Equal(third, c.want) {
			t.Errorf("result %d became %v, then %v, %d", i, second, third, e)
		}
	}
	if !slices.Equal(w, powers(10)) || !slices.Equal(d, both(powers(10)...)) {
		t.Errorf("got %d and %v", w, d)
	}
}

// R2, R3: weights are new memory in every call, with their spare capacity, also if nothing changes.
func TestWeightsAreNewMemory(t *testing.T) {
	x, w, d := bush(), powers(10), make([]api.Delta, 10)
	first, _ := Apply(x, w, d)
	second, _ := Apply(x, w, d)
	scribble(first, 77)
	third, e := Apply(x, w, d)
	if e != api.OK || !slices.Equal(second, powers(10)) || !slices.Equal(third, powers(10)) {
		t.Errorf("the result became %d, then %d, %d", second, third, e)
	}
	if !slices.Equal(w, powers(10)) || !slices.Equal(d, make([]api.Delta, 10)) {
		t.Errorf("got %d and %v", w, d)
	}
}
