package deltas

import (
	"math/big"
	"math/rand"
	"slices"
	"testing"
	"time"

	"forkhead/ancestry"
	"forkhead/api"
)

// checkApply checks what Apply returns for a valid tree.
func checkApply(t *testing.T, x api.Tree, w []uint64, d []api.Delta, want ...uint64) {
	t.Helper()
	validate(t, x)
	if got, e := Apply(x, w, d); e != api.OK || !slices.Equal(got, want) {
		t.Errorf("Apply(.., %d, %v): got %d, %d, want %d", w, d, got, e, want)
	}
}

// refuseApply checks that Apply returns this error alone for a valid tree.
func refuseApply(t *testing.T, x api.Tree, w []uint64, d []api.Delta, want api.Errno) {
	t.Helper()
	validate(t, x)
	if got, e := Apply(x, w, d); e != want || len(got) != 0 {
		t.Errorf("Apply(.., %d, %v): got %d, %d, want the error %d", w, d, got, e, want)
	}
}

// applyOf is P14.2, for lists of the right length.
func applyOf(x api.Tree, w []uint64, d []api.Delta) ([]uint64, api.Errno) {
	l := []uint64{}
	for i := range x.Nodes {
		up, down := new(big.Int), new(big.Int)
		for _, j := range ancestry.Descendants(x, i) {
			up.Add(up, new(big.Int).SetUint64(d[j].Plus))
			down.Add(down, new(big.Int).SetUint64(d[j].Minus))
		}
		number := new(big.Int).SetUint64(w[i])
		number.Sub(number.Add(number, up), down)
		if !number.IsUint64() || !up.IsUint64() || !down.IsUint64() {
			return nil, api.ErrOverflow
		}
		l = append(l, number.Uint64())
	}
	return l, api.OK
}

// compareApply checks Apply against applyOf and reports whether there is no error.
func compareApply(t *testing.T, x api.Tree, w []uint64, d []api.Delta) bool {
	t.Helper()
	want, e := applyOf(x, w, d)
	if e != api.OK {
		refuseApply(t, x, w, d, e)
		return false
	}
	checkApply(t, x, w, d, want...)
	return true
}

// P14.2: example 1, and single deltas in chains, stars and a bush, by hand: they change the node and its ancestors.
func TestApply(t *testing.T) {
	checkApply(t, chain(3), []uint64{5, 5, 0}, []api.Delta{{}, {Minus: 5}, {Plus: 5}}, 5, 5, 5)
	checkApply(t, grow(), []uint64{5}, plus(3), 8)
	checkApply(t, grow(), []uint64{5}, minus(3), 2)
	checkApply(t, grow(), []uint64{5}, []api.Delta{{Plus: 4, Minus: 6}}, 3)
	checkApply(t, chain(4), []uint64{9, 8, 7, 6}, plus(0, 0, 3, 0), 12, 11, 10, 6)
	checkApply(t, chain(4), []uint64{9, 8, 7, 6}, minus(0, 0, 3, 0), 6, 5, 4, 6)
	checkApply(t, star(4), []uint64{9, 8, 7, 6}, plus(0, 0, 3, 0), 12, 8, 10, 6)
	checkApply(t, star(4), []uint64{9, 8, 7, 6}, minus(1, 2, 0, 3), 3, 6, 7, 3)
	checkApply(t, grow(0, 0, 1), []uint64{10, 3, 4, 2}, []api.Delta{{Plus: 1}, {}, {Minus: 4}, {Plus: 6}}, 13, 9, 0, 8)
	zero := make([]uint64, 10)
	checkApply(t, bush(), zero, plus(powers(10)...), 1023, 2+8+32+128, 4+16+256+512, 8+128, 16+256+512, 32, 64, 128, 256, 512)
	checkApply(t, bush(), powers(10), make([]api.Delta, 10), powers(10)...)
	checkApply(t, bush(), zero, []api.Delta{8: {Plus: 3}, 9: {}}, 3, 0, 3, 0, 3, 0, 0, 0, 3, 0)
}

// P14.2: weights of any kind, also those that are no sums of others, and whatever the statuses are.
func TestApplyToAnyWeights(t *testing.T) {
	x := chain(3)
	checkApply(t, x, []uint64{0, 5, 9}, plus(1, 2, 3), 6, 10, 12)
	checkApply(t, x, []uint64{0, 5, 9}, []api.Delta{{Plus: 4}, {Plus: 4}, {Minus: 8}}, 0, 1, 1)
	for i := range x.Nodes {
		x.Nodes[i].Status = api.Invalid
	}
	checkApply(t, x, []uint64{0, 5, 9}, plus(1, 2, 3), 6, 10, 12)
}

// P14.2: lists that are too short or too long, one of them or both, before any number is looked at.
func TestApplyForm(t *testing.T) {
	x := chain(3)
	w, d := powers(5), make([]api.Delta, 5)
	for i := range 6 {
		for j := range 6 {
			if i == 3 && j == 3 {
				checkApply(t, x, w[:3], d[:3], 1, 2, 4)
				continue
			}
			refuseApply(t, x, w[:i], d[:j], api.ErrForm)
		}
	}
	refuseApply(t, x, nil, nil, api.ErrForm)
	refuseApply(t, grow(), nil, plus(1), api.ErrForm)
	refuseApply(t, grow(), []uint64{1}, nil, api.ErrForm)
	refuseApply(t, x, []uint64{most, most}, plus(most, most, most), api.ErrForm)
	refuseApply(t, x, []uint64{0, 0, 0}, minus(most, most), api.ErrForm)
	refuseApply(t, x, []uint64{0, 0, 0, 0}, minus(1, 1, 1), api.ErrForm)
	refuseApply(t, x, []uint64{0, 0, 0}, minus(1, 1, 1, 1), api.ErrForm)
}

// P14.2: a number that would be negative, in each node of a chain.
func TestApplyNegative(t *testing.T) {
	x := chain(3)
	refuseApply(t, grow(), []uint64{5}, minus(6), api.ErrOverflow)
	refuseApply(t, grow(), []uint64{0}, []api.Delta{{Plus: most - 1, Minus: most}}, api.ErrOverflow)
	checkApply(t, grow(), []uint64{5}, minus(5), 0)
	checkApply(t, grow(), []uint64{1}, []api.Delta{{Plus: most - 1, Minus: most}}, 0)
	checkApply(t, grow(), []uint64{most}, minus(most), 0)
	refuseApply(t, x, []uint64{5, 5, 0}, minus(0, 0, 1), api.ErrOverflow)
	refuseApply(t, x, []uint64{5, 3, 4}, minus(0, 0, 4), api.ErrOverflow)
	refuseApply(t, x, []uint64{3, 4, 4}, minus(0, 0, 4), api.ErrOverflow)
	refuseApply(t, x, []uint64{5, 4, 4}, minus(2, 0, 4), api.ErrOverflow)
	checkApply(t, x, []uint64{4, 4, 4}, minus(0, 0, 4), 0, 0, 0)
	// Ancestors that grow again make up for nothing below them.
	refuseApply(t, x, []uint64{9, 9, 3}, []api.Delta{{Plus: 9}, {Plus: 9}, {Minus: 4}}, api.ErrOverflow)
	refuseApply(t, x, []uint64{9, 3, 9}, []api.Delta{{Plus: 9}, {}, {Minus: 4}}, api.ErrOverflow)
}

// P14.2: a number that would be above 2^64 - 1, in each node of a chain.
func TestApplyTooGreat(t *testing.T) {
	x := chain(3)
	refuseApply(t, grow(), []uint64{most}, plus(1), api.ErrOverflow)
	refuseApply(t, grow(), []uint64{most}, plus(most), api.ErrOverflow)
	refuseApply(t, grow(), []uint64{2}, []api.Delta{{Plus: most, Minus: 1}}, api.ErrOverflow)
	checkApply(t, grow(), []uint64{1}, []api.Delta{{Plus: most, Minus: 1}}, most)
	checkApply(t, grow(), []uint64{1}, plus(most-1), most)
	checkApply(t, grow(), []uint64{0}, plus(most), most)
	refuseApply(t, x, []uint64{0, 0, most}, plus(0, 0, 1), api.ErrOverflow)
	refuseApply(t, x, []uint64{0, most, 0}, plus(0, 0, 1), api.ErrOverflow)
	refuseApply(t, x, []uint64{most, 0, 0}, plus(0, 0, 1), api.ErrOverflow)
	refuseApply(t, x, []uint64{most - 2, 0, 0}, plus(1, 1, 1), api.ErrOverflow)
	checkApply(t, x, []uint64{most - 3, 0, 0}, plus(1, 1, 1), most, 2, 1)
	// Ancestors that shrink again make up for nothing below them.
	refuseApply(t, x, []uint64{9, 9, most}, []api.Delta{{Minus: 9}, {Minus: 9}, {Plus: 1}}, api.ErrOverflow)
	refuseApply(t, x, []uint64{9, most, 9}, []api.Delta{{Minus: 9}, {}, {Plus: 1}}, api.ErrOverflow)
}

// P14.2, R7: only the number itself must fit, not the weight with the sum of Plus or without that of Minus.
func TestApplyInAnyOrder(t *testing.T) {
	x := chain(3)
	checkApply(t, grow(), []uint64{most}, both(most), most)
	checkApply(t, grow(), []uint64{0}, both(most), 0)
	checkApply(t, grow(), []uint64{most}, []api.Delta{{Plus: most - 1, Minus: most}}, most-1)
	checkApply(t, x, []uint64{most, most, most}, both(1, 0, most-1), most, most, most)
	checkApply(t, x, []uint64{0, 0, 0}, both(1, 0, most-1), 0, 0, 0)
	checkApply(t, x, []uint64{most, most, 0}, []api.Delta{{}, {Minus: 7}, {Plus: 7}}, most, most, 7)
	checkApply(t, x, []uint64{0, 0, 7}, []api.Delta{{}, {Plus: 7}, {Minus: 7}}, 0, 0, 0)
}

// P14.2: the sums of Plus and of Minus must fit each for itself, also where the number does.
func TestApplySums(t *testing.T) {
	w := []uint64{9, 9, 9}
	for _, x := range []api.Tree{chain(3), star(3)} {
		checkApply(t, x, w, both(1, most-2, 1), w...)
		refuseApply(t, x, w, both(1, most-1, 1), api.ErrOverflow)
		refuseApply(t, x, w, both(0, most, 1), api.ErrOverflow)
		refuseApply(t, x, w, both(1, 0, most), api.ErrOverflow)
		refuseApply(t, x, w, []api.Delta{{Plus: 1}, {Plus: most, Minus: most}, {}}, api.ErrOverflow)
		refuseApply(t, x, w, []api.Delta{{Minus: 1}, {Plus: most, Minus: most}, {}}, api.ErrOverflow)
		refuseApply(t, x, []uint64{0, 0, 0}, plus(1<<63, 1<<63, 0), api.ErrOverflow)
		refuseApply(t, x, []uint64{most, most, most}, minus(1<<63, 1<<63, 0), api.ErrOverflow)
		checkApply(t, x, []uint64{most, most, most}, minus(1<<63, 1<<63-1, 0), 0, 1<<63, most)
	}
	// Sums of different branches meet in node 0, but the sum of strangers does not count.
	x := grow(0, 0, 1, 2)
	refuseApply(t, x, make([]uint64, 5), both(0, 0, 0, 1<<63, 1<<63), api.ErrOverflow)
	checkApply(t, x, make([]uint64, 5), both(0, 0, 0, 1<<63, 1<<63-1), make([]uint64, 5)...)
	refuseApply(t, x, make([]uint64, 5), both(0, most, 0, 1, 0), api.ErrOverflow)
	refuseApply(t, x, make([]uint64, 5), both(0, 0, most, 0, 1), api.ErrOverflow)
}

// P14.2: each node of all small trees, alone, at the edges.
func TestApplyToAllSmallTrees(t *testing.T) {
	for _, x := range smallTrees(6) {
		n := len(x.Nodes)
		w := slices.Repeat([]uint64{1 << 40}, n)
		compareApply(t, x, w, plus(powers(n)...))
		compareApply(t, x, w, minus(powers(n)...))
		for i := range n {
			d := make([]api.Delta, n)
			for _, d[i] = range []api.Delta{{Plus: most - 1<<40}, {Plus: most - 1<<40 + 1}, {Minus: 1 << 40}, {Minus: 1<<40 + 1}} {
				compareApply(t, x, w, d)
				d[i] = api.Delta{}
			}
		}
	}
}

// edge returns one of the numbers at which sums become too great, or a small one.
func edge(random *rand.Rand) uint64 {
	switch random.Intn(12) {
	case 0:
		return most - uint64(random.Intn(3))
	case 1:
		return 1<<63 - uint64(random.Intn(3))
	case 2:
		return random.Uint64()
	}
	return uint64(random.Intn(4))
}

// P14.2: random trees and numbers, with and without errors.
func TestRandomApply(t *testing.T) {
	random := rand.New(rand.NewSource(3))
	counts := map[bool]int{}
	for range 20000 {
		n := 1 + random.Intn(6)
		w, d := make([]uint64, n), make([]api.Delta, n)
		for i := range d {
			w[i], d[i] = edge(random), api.Delta{Plus: edge(random), Minus: edge(random)}
			if random.Intn(2) == 0 {
				w[i] += 1 << 62
			}
		}
		counts[compareApply(t, randomTree(random, n), w, d)]++
	}
	if counts[true] < 1000 || counts[false] < 1000 {
		t.Errorf("got %v", counts)
	}
}

// P14.2: as many nodes as there may be.
func TestApplyToGreatTrees(t *testing.T) {
	random := rand.New(rand.NewSource(4))
	x := randomTree(random, api.MaxNodes)
	w, d := make([]uint64, api.MaxNodes), make([]api.Delta, api.MaxNodes)
	for i := range d {
		w[i] = 1<<62 + uint64(random.Int63n(1<<62))
		d[i] = api.Delta{Plus: uint64(random.Int63n(1 << 49)), Minus: uint64(random.Int63n(1 << 49))}
	}
	if !compareApply(t, x, w, d) {
		t.Error("got an error")
	}
	ones := slices.Repeat([]uint64{1}, api.MaxNodes)
	want := make([]uint64, api.MaxNodes)
	for i := range want {
		want[i] = uint64(api.MaxNodes - i)
	}
	checkApply(t, chain(api.MaxNodes), make([]uint64, api.MaxNodes), plus(ones...), want...)
	checkApply(t, chain(api.MaxNodes), want, minus(ones...), make([]uint64, api.MaxNodes)...)
}

// P14.2: one pass is enough; a walk from each node would take 2000 times the steps, and much longer than the time that is
// given here to a hundred times the work.
func TestApplyInOnePass(t *testing.T) {
	x := chain(api.MaxNodes)
	w, d := make([]uint64, api.MaxNodes), plus(slices.Repeat([]uint64{1}, api.MaxNodes)...)
	end := time.Now().Add(time.Minute)
	for range 10000 {
		if _, e := Apply(x, w, d); e != api.OK {
			t.Fatalf("got %d", e)
		}
		if time.Now().After(end) {
			t.Fatal("too many steps")
		}
	}
}
