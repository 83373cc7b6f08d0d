package deltas

import (
	"math/big"
	"math/rand"
	"slices"
	"testing"

	"forkhead/api"
	"forkhead/weights"
)

// checkMerge checks what Merge returns for a valid tree.
func checkMerge(t *testing.T, x api.Tree, want []api.Delta, l ...[]api.Delta) {
	t.Helper()
	validate(t, x)
	if got, e := Merge(x, l...); e != api.OK || !slices.Equal(got, want) {
		t.Errorf("Merge(.., %v): got %v, %d, want %v", l, got, e, want)
	}
}

// refuseMerge checks that Merge returns this error alone for a valid tree.
func refuseMerge(t *testing.T, x api.Tree, want api.Errno, l ...[]api.Delta) {
	t.Helper()
	validate(t, x)
	if got, e := Merge(x, l...); e != want || len(got) != 0 {
		t.Errorf("Merge(.., %v): got %v, %d, want the error %d", l, got, e, want)
	}
}

// mergeOf is P14.4, for lists of the right length.
func mergeOf(x api.Tree, l [][]api.Delta) ([]api.Delta, api.Errno) {
	sums := []api.Delta{}
	for i := range x.Nodes {
		up, down := new(big.Int), new(big.Int)
		for _, d := range l {
			up.Add(up, new(big.Int).SetUint64(d[i].Plus))
			down.Add(down, new(big.Int).SetUint64(d[i].Minus))
		}
		if !up.IsUint64() || !down.IsUint64() {
			return nil, api.ErrOverflow
		}
		sums = append(sums, api.Delta{Plus: up.Uint64(), Minus: down.Uint64()})
	}
	return sums, api.OK
}

// P14.4: no list, one, several, and one list several times; the sums are those of each node alone.
func TestMerge(t *testing.T) {
	a, b := []api.Delta{{Plus: 1}, {Minus: 2}, {Plus: 3, Minus: 4}}, []api.Delta{{Minus: 10}, {Minus: 20}, {Plus: 30, Minus: 40}}
	for _, x := range []api.Tree{chain(3), star(3)} {
		checkMerge(t, x, make([]api.Delta, 3))
		checkMerge(t, x, make([]api.Delta, 3), make([]api.Delta, 3))
		checkMerge(t, x, a, a)
		checkMerge(t, x, []api.Delta{{Plus: 1, Minus: 10}, {Minus: 22}, {Plus: 33, Minus: 44}}, a, b)
		checkMerge(t, x, []api.Delta{{Plus: 1, Minus: 10}, {Minus: 22}, {Plus: 33, Minus: 44}}, b, a)
		checkMerge(t, x, []api.Delta{{Plus: 3}, {Minus: 6}, {Plus: 9, Minus: 12}}, a, a, a)
		checkMerge(t, x, []api.Delta{{Plus: 2, Minus: 10}, {Minus: 24}, {Plus: 36, Minus: 48}}, a, b, a)
	}
	checkMerge(t, grow(), plus(5), plus(2), plus(3))
	checkMerge(t, grow(), []api.Delta{{Plus: 2, Minus: 3}}, plus(2), minus(3))
	checkMerge(t, bush(), plus(powers(10)...), plus(powers(10)...), make([]api.Delta, 10))
}

// P14.4: Plus and Minus stay apart, and no status matters.
func TestMergeKeepsBothSums(t *testing.T) {
	x := chain(4)
	checkMerge(t, x, both(1, 2, 3, most), plus(1, 2, 3, most), minus(1, 2, 3, most))
	for status := range 3 {
		for i := range x.Nodes {
			x.Nodes[i].Status = status
		}
		checkMerge(t, x, both(2, 4, 6, 8), both(1, 2, 3, 4), both(1, 2, 3, 4))
	}
}

// P14.4: lists that are too short or too long, at each place, also behind a sum that is too great.
func TestMergeForm(t *testing.T) {
	x := chain(3)
	good, great := plus(1, 2, 3), both(most, most, most)
	for _, n := range []int{0, 1, 2, 4, 5} {
		bad := make([]api.Delta, n)
		refuseMerge(t, x, api.ErrForm, bad)
		refuseMerge(t, x, api.ErrForm, bad, bad)
		refuseMerge(t, x, api.ErrForm, bad, good, good)
		refuseMerge(t, x, api.ErrForm, good, bad, good)
		refuseMerge(t, x, api.ErrForm, good, good, bad)
		refuseMerge(t, x, api.ErrForm, great, great, bad)
		refuseMerge(t, x, api.ErrForm, great, bad, great)
		refuseMerge(t, x, api.ErrForm, bad, great, great)
	}
	refuseMerge(t, x, api.ErrForm, nil)
	refuseMerge(t, x, api.ErrForm, nil, nil)
	refuseMerge(t, x, api.ErrForm, good, nil)
	refuseMerge(t, grow(), api.ErrForm, good)
	refuseMerge(t, grow(), api.ErrForm, great, great)
	checkMerge(t, x, good, good)
}

// P14.4: sums of 2^64 - 1 and above, of Plus or of Minus, in each node.
func TestMergeOverflow(t *testing.T) {
	x := chain(3)
	for i := range x.Nodes {
		one, rest, all := make([]uint64, 3), make([]uint64, 3), make([]uint64, 3)
		one[i], rest[i], all[i] = 1, most-1, most
		checkMerge(t, x, plus(all...), plus(one...), plus(rest...))
		checkMerge(t, x, minus(all...), minus(rest...), minus(one...))
		checkMerge(t, x, both(all...), both(all...), both(0, 0, 0))
		refuseMerge(t, x, api.ErrOverflow, plus(one...), plus(all...))
		refuseMerge(t, x, api.ErrOverflow, minus(all...), minus(one...))
		refuseMerge(t, x, api.ErrOverflow, plus(one...), plus(one...), plus(rest...))
		refuseMerge(t, x, api.ErrOverflow, minus(rest...), minus(one...), minus(one...))
		refuseMerge(t, x, api.ErrOverflow, plus(one...), both(all...))
		refuseMerge(t, x, api.ErrOverflow, minus(one...), both(all...))
		refuseMerge(t, x, api.ErrOverflow, plus(all...), plus(all...))
	}
	// The numbers of different nodes are not added up.
	checkMerge(t, x, both(most, most, most), plus(most, most, most), minus(most, most, most))
}

// P14.4: random lists, some of them with sums that are too great.
func TestRandomMerge(t *testing.T) {
	random := rand.New(rand.NewSource(5))
	counts := map[api.Errno]int{}
	for range 20000 {
		n := 1 + random.Intn(4)
		x, l := randomTree(random, n), make([][]api.Delta, random.Intn(5))
		for i := range l {
			l[i] = make([]api.Delta, n)
			for j := range l[i] {
				l[i][j] = api.Delta{Plus: edge(random), Minus: edge(random)}
			}
		}
		want, e := mergeOf(x, l)
		counts[e]++
		if e != api.OK {
			refuseMerge(t, x, e, l...)
			continue
		}
		checkMerge(t, x, want, l...)
	}
	if counts[api.OK] < 1000 || counts[api.ErrOverflow] < 1000 {
		t.Errorf("got %v", counts)
	}
}

// P14.2, P14.4: one change that is merged from two leads to the same weights as the two one after the other.
func TestApplyMerged(t *testing.T) {
	random := rand.New(rand.NewSource(6))
	for range 300 {
		n := 1 + random.Intn(20)
		x := randomTree(random, n)
		a, b, c := parts(random, n), parts(random, n), parts(random, n)
		first, second := Moves(x, a, b), Moves(x, b, c)
		merged, e := Merge(x, first, second)
		if e != api.OK {
			t.Fatalf("Merge: got %d", e)
		}
		w := weights.Subtree(x, a)
		middle, _ := Apply(x, w, first)
		want, _ := Apply(x, middle, second)
		checkApply(t, x, w, merged, want...)
		checkApply(t, x, w, merged, weights.Subtree(x, c)...)
	}
}

// P14.4: as many nodes as there may be, and many lists.
func TestGreatMerge(t *testing.T) {
	x := chain(api.MaxNodes)
	ones := both(slices.Repeat([]uint64{1}, api.MaxNodes)...)
	want := both(slices.Repeat([]uint64{300}, api.MaxNodes)...)
	checkMerge(t, x, want, slices.Repeat([][]api.Delta{ones}, 300)...)
}
