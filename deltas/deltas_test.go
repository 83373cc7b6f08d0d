package deltas

import (
	"math"
	"math/rand"
	"slices"
	"testing"

	"forkhead/api"
	"forkhead/blocktree"
	"forkhead/weights"
)

// most is the greatest number.
const most = math.MaxUint64

// numbered returns the root with the number n.
func numbered(n int) api.Root {
	return api.Root{0: 9, 15: byte(n), 16: byte(n >> 8)}
}

// node returns a node with a numbered root.
func node(i, up int, slot uint64) api.Node {
	b := api.Block{Root: numbered(i), Parent: numbered(max(up, -up)), Slot: slot}
	return api.Node{Block: b, Up: up, Status: i % 3}
}

// grow returns the valid tree whose node i + 1 has the parent ups[i], with all kinds of statuses.
func grow(ups ...int) api.Tree {
	x := api.Tree{Nodes: []api.Node{node(0, -1, 7)}}
	for i, up := range ups {
		x.Nodes = append(x.Nodes, node(i+1, up, x.Nodes[up].Slot+2))
	}
	return x
}

// chain returns the valid tree with n nodes and one leaf.
func chain(n int) api.Tree {
	ups := make([]int, n-1)
	for i := range ups {
		ups[i] = i
	}
	return grow(ups...)
}

// star returns the valid tree with n nodes in which node 0 is the parent of all others.
func star(n int) api.Tree {
	return grow(make([]int, n-1)...)
}

// bush returns a tree in which 0 has the children 1, 2 and 6, 1 has 3 and 5, 3 has 7, 2 has 4, 4 has 8 and 9.
func bush() api.Tree {
	return grow(0, 0, 1, 2, 1, 0, 3, 4, 4)
}

// smallTrees returns all trees with one to n nodes.
func smallTrees(n int) []api.Tree {
	l, ups := []api.Tree{}, []int{}
	var visit func()
	visit = func() {
		l = append(l, grow(ups...))
		if len(ups) == n-1 {
			return
		}
		for up := range len(ups) + 1 {
			ups = append(ups, up)
			visit()
			ups = ups[:len(ups)-1]
		}
	}
	visit()
	return l
}

// randomTree returns a valid tree with n nodes.
func randomTree(random *rand.Rand, n int) api.Tree {
	ups := make([]int, n-1)
	for i := range ups {
		ups[i] = random.Intn(i + 1)
	}
	return grow(ups...)
}

// powers returns n powers of two, beginning with 1, so that each sum of some of them tells which these are.
func powers(n int) []uint64 {
	l := make([]uint64, n)
	for i := range l {
		l[i] = 1 << i
	}
	return l
}

// plus returns a list of deltas that only add these numbers.
func plus(l ...uint64) []api.Delta {
	d := make([]api.Delta, len(l))
	for i, n := range l {
		d[i].Plus = n
	}
	return d
}

// minus returns a list of deltas that only subtract these numbers.
func minus(l ...uint64) []api.Delta {
	d := make([]api.Delta, len(l))
	for i, n := range l {
		d[i].Minus = n
	}
	return d
}

// both returns a list of deltas that add and subtract these numbers.
func both(l ...uint64) []api.Delta {
	d := plus(l...)
	for i, n := range l {
		d[i].Minus = n
	}
	return d
}

// validate checks that a tree is one that the functions may be called with.
func validate(t *testing.T, x api.Tree) {
	t.Helper()
	if e := blocktree.Validate(x); e != api.OK {
		t.Fatalf("Validate: got %d", e)
	}
}

// checkMoves checks what Moves returns for a valid tree.
func checkMoves(t *testing.T, x api.Tree, before, after []uint64, want ...api.Delta) {
	t.Helper()
	validate(t, x)
	if got := Moves(x, before, after); !slices.Equal(got, want) {
		t.Errorf("Moves(.., %d, %d): got %v, want %v", before, after, got, want)
	}
}

// P14.1: numbers that grow, shrink and stay, by hand.
func TestMoves(t *testing.T) {
	checkMoves(t, grow(), []uint64{3}, []uint64{8}, api.Delta{Plus: 5})
	checkMoves(t, grow(), []uint64{8}, []uint64{3}, api.Delta{Minus: 5})
	checkMoves(t, grow(), []uint64{8}, []uint64{8}, api.Delta{})
	checkMoves(t, grow(), []uint64{0}, []uint64{0}, api.Delta{})
	checkMoves(t, chain(3), []uint64{5, 9, 0}, []uint64{5, 2, 7}, api.Delta{}, api.Delta{Minus: 7}, api.Delta{Plus: 7})
	checkMoves(t, chain(4), make([]uint64, 4), powers(4), plus(powers(4)...)...)
	checkMoves(t, star(4), powers(4), make([]uint64, 4), minus(powers(4)...)...)
	checkMoves(t, bush(), powers(10), powers(10), make([]api.Delta, 10)...)
}

// P14.1: each change is that of the node itself, whatever the tree and the statuses are.
func TestMovesOfAllSmallTrees(t *testing.T) {
	for _, x := range smallTrees(5) {
		n := len(x.Nodes)
		before, after := make([]uint64, n), slices.Repeat([]uint64{9}, n)
		for i := range before {
			before[i] = uint64(7 + i)
		}
		checkMoves(t, x, before, after, []api.Delta{{Plus: 2}, {Plus: 1}, {}, {Minus: 1}, {Minus: 2}}[:n]...)
		for i := range x.Nodes {
			x.Nodes[i].Status = api.Invalid
		}
		checkMoves(t, x, before, after, []api.Delta{{Plus: 2}, {Plus: 1}, {}, {Minus: 1}, {Minus: 2}}[:n]...)
	}
}

// P14.1, R7: the greatest numbers; their sums need not fit into anything.
func TestGreatMoves(t *testing.T) {
	x := chain(3)
	checkMoves(t, x, []uint64{0, 0, 0}, []uint64{most, most, most}, plus(most, most, most)...)
	checkMoves(t, x, []uint64{most, most, most}, []uint64{0, 0, 0}, minus(most, most, most)...)
	checkMoves(t, x, []uint64{most, most - 1, most}, []uint64{most - 1, most, most}, api.Delta{Minus: 1}, api.Delta{Plus: 1}, api.Delta{})
	checkMoves(t, x, []uint64{1 << 63, 1<<63 - 1, 1}, []uint64{1<<63 - 1, 1 << 63, most},
		api.Delta{Minus: 1}, api.Delta{Plus: 1}, api.Delta{Plus: most - 1})
}

// P14.1: what the document leaves to the caller: a node without both numbers does not change, and further numbers do not count.
func TestMovesOfOtherNumbers(t *testing.T) {
	x := chain(3)
	checkMoves(t, x, nil, nil, make([]api.Delta, 3)...)
	checkMoves(t, x, nil, powers(3), make([]api.Delta, 3)...)
	checkMoves(t, x, powers(3), []uint64{}, make([]api.Delta, 3)...)
	checkMoves(t, x, powers(2), []uint64{0, 0, 0}, minus(1, 2, 0)...)
	checkMoves(t, x, []uint64{0, 0, 0}, powers(1), plus(1, 0, 0)...)
	checkMoves(t, x, []uint64{0, 0, 0, 0}, powers(5), plus(1, 2, 4)...)
}

// checkChange checks P14.3: moves lead from the weights of before to those of after, and back.
func checkChange(t *testing.T, x api.Tree, before, after []uint64) {
	t.Helper()
	validate(t, x)
	for range 2 {
		got, e := Apply(x, weights.Subtree(x, before), Moves(x, before, after))
		if want := weights.Subtree(x, after); e != api.OK || !slices.Equal(got, want) {
			t.Errorf("from %d to %d: got %d, %d, want %d", before, after, got, e, want)
		}
		before, after = after, before
	}
}

// P14.3: all small trees, with numbers that tell which nodes count where.
func TestChangeOfAllSmallTrees(t *testing.T) {
	for _, x := range smallTrees(6) {
		before := powers(len(x.Nodes))
		after := slices.Clone(before)
		slices.Reverse(after)
		checkChange(t, x, before, after)
		checkChange(t, x, before, before)
		checkChange(t, x, before, make([]uint64, len(before)))
		for i := range after {
			after[i] *= 3 << 10
		}
		checkChange(t, x, before, after)
	}
}

// P14.3: sums of 2 MaxTotal, moved from any node to any other one.
func TestChangeOfGreatSums(t *testing.T) {
	const limit = 2 * api.MaxTotal
	for _, x := range []api.Tree{chain(6), star(6), bush(), grow(0, 0, 1, 1, 2)} {
		n := len(x.Nodes)
		for i := range n {
			for j := range n {
				before, after := make([]uint64, n), make([]uint64, n)
				before[i], after[j] = limit, limit
				checkChange(t, x, before, after)
				before[i] -= 5
				before[0] += 5
				checkChange(t, x, before, after)
			}
		}
	}
	before := slices.Repeat([]uint64{limit / api.MaxNodes}, api.MaxNodes)
	after := make([]uint64, api.MaxNodes)
	after[api.MaxNodes-1] = limit
	checkChange(t, chain(api.MaxNodes), before, after)
	checkChange(t, star(api.MaxNodes), before, after)
}

// parts returns n numbers whose sum is at most 2 MaxTotal, some of them 0.
func parts(random *rand.Rand, n int) []uint64 {
	l := make([]uint64, n)
	left := uint64(2 * api.MaxTotal)
	for _, i := range random.Perm(n) {
		if random.Intn(3) > 0 {
			l[i] = random.Uint64() % (left/uint64(1+random.Intn(n)) + 1)
			left -= l[i]
		}
	}
	return l
}

// P14.3: random trees and numbers.
func TestRandomChange(t *testing.T) {
	random := rand.New(rand.NewSource(1))
	for range 1000 {
		n := 1 + random.Intn(30)
		checkChange(t, randomTree(random, n), parts(random, n), parts(random, n))
	}
	checkChange(t, randomTree(random, api.MaxNodes), parts(random, api.MaxNodes), parts(random, api.MaxNodes))
}

// P14.3: votes that move, come and go, weighed by package weights.
func TestChangeOfVotes(t *testing.T) {
	random := rand.New(rand.NewSource(2))
	balances := make([]uint64, 20)
	for i := range balances {
		balances[i] = uint64(random.Int63n(api.MaxTotal / 20))
	}
	for range 200 {
		x := randomTree(random, 1+random.Intn(12))
		checkChange(t, x, weights.Direct(x, randomVotes(random), balances), weights.Direct(x, randomVotes(random), balances))
	}
}

// randomVotes returns votes of 20 validators for the first 15 numbered roots.
func randomVotes(random *rand.Rand) api.Votes {
	v := api.Votes{Latest: make([]api.Vote, 20)}
	for i := range v.Latest {
		if random.Intn(4) > 0 {
			v.Latest[i] = api.Vote{Has: true, Root: numbered(random.Intn(15))}
		}
		if random.Intn(6) == 0 {
			v.Equivocating = append(v.Equivocating, i)
		}
	}
	return v
}
