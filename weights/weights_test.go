package weights

import (
	"math"
	"math/rand"
	"slices"
	"testing"

	"forkhead/ancestry"
	"forkhead/api"
	"forkhead/blocktree"
)

// strange are numbers that are no validator's.
var strange = []int{math.MinInt, -1 << 32, -2, -1, api.MaxValidators, 1 << 32, math.MaxInt}

// numbered returns the root with the number n; roots with different numbers may have many bytes in common.
func numbered(n int) api.Root {
	return api.Root{0: 9, 15: byte(n), 16: byte(n >> 8)}
}

// node returns a node with a numbered root.
func node(i, up int, slot uint64) api.Node {
	b := api.Block{Root: numbered(i), Parent: numbered(max(up, -up)), Slot: slot}
	return api.Node{Block: b, Up: up, Status: i % 2}
}

// grow returns the valid tree whose node i + 1 has the parent ups[i]; no node is invalid.
func grow(ups ...int) api.Tree {
	x := api.Tree{Nodes: []api.Node{node(0, -1, 7)}}
	for i, up := range ups {
		x.Nodes = append(x.Nodes, node(i+1, up, x.Nodes[up].Slot+2))
	}
	return x
}

// chain returns the valid tree with n nodes and one leaf.
func chain(n int) api.Tree {
	ups := make([]int, n-1)
	for i := range ups {
		ups[i] = i
	}
	return grow(ups...)
}

// bush returns a tree in which 0 has the children 1, 2 and 6, 1 has 3 and 5, 3 has 7, 2 has 4, 4 has 8 and 9.
func bush() api.Tree {
	return grow(0, 0, 1, 2, 1, 0, 3, 4, 4)
}

// withStatus returns the tree with this status at some nodes.
func withStatus(x api.Tree, status int, nodes ...int) api.Tree {
	for _, i := range nodes {
		x.Nodes[i].Status = status
	}
	return x
}

// of returns votes for the numbered roots, with different epochs; a negative number stands for no vote.
func of(l ...int) api.Votes {
	v := api.Votes{Latest: make([]api.Vote, len(l))}
	for i, n := range l {
		if n >= 0 {
			v.Latest[i] = api.Vote{Has: true, Epoch: uint64(i % 3), Root: numbered(n)}
		}
	}
	return v
}

// without returns the votes with these validators as the equivocating ones.
func without(v api.Votes, equivocating ...int) api.Votes {
	v.Equivocating = equivocating
	return v
}

// powers returns n powers of two, beginning with 1, so that each sum of some of them tells which these are.
func powers(n int) []uint64 {
	l := make([]uint64, n)
	for i := range l {
		l[i] = 1 << i
	}
	return l
}

// directOf is P13.1.
func directOf(x api.Tree, v api.Votes, balances []uint64) []uint64 {
	l := []uint64{}
	for _, n := range x.Nodes {
		sum := uint64(0)
		for i := 0; i <= len(balances)-1; i++ {
			if v.Latest[i].Has && v.Latest[i].Root == n.Root && !slices.Contains(v.Equivocating, i) {
				sum += balances[i]
			}
		}
		if n.Status == api.Invalid {
			sum = 0
		}
		l = append(l, sum)
	}
	return l
}

// subtreeOf is P13.2 for Subtree.
func subtreeOf(x api.Tree, direct []uint64) []uint64 {
	l := []uint64{}
	for i := range x.Nodes {
		sum := uint64(0)
		for _, j := range ancestry.Descendants(x, i) {
			sum += direct[j]
		}
		l = append(l, sum)
	}
	return l
}

// totalOf is P13.2 for Total.
func totalOf(v api.Votes, balances []uint64) uint64 {
	sum := uint64(0)
	for i, balance := range balances {
		if !slices.Contains(v.Equivocating, i) {
			sum += balance
		}
	}
	return sum
}

// checkDirect checks what Direct returns for a valid tree.
func checkDirect(t *testing.T, x api.Tree, v api.Votes, balances []uint64, want ...uint64) {
	t.Helper()
	if e := blocktree.Validate(x); e != api.OK {
		t.Fatalf("Validate: got %d", e)
	}
	if got := Direct(x, v, balances); !slices.Equal(got, want) {
		t.Errorf("Direct(.., %v, %d): got %d, want %d", v, balances, got, want)
	}
}

// checkSubtree checks what Subtree returns for a valid tree.
func checkSubtree(t *testing.T, x api.Tree, direct []uint64, want ...uint64) {
	t.Helper()
	if e := blocktree.Validate(x); e != api.OK {
		t.Fatalf("Validate: got %d", e)
	}
	if got := Subtree(x, direct); !slices.Equal(got, want) {
		t.Errorf("Subtree(.., %d): got %d, want %d", direct, got, want)
	}
}

// checkTotal checks what Total returns.
func checkTotal(t *testing.T, v api.Votes, balances []uint64, want uint64) {
	t.Helper()
	if got := Total(v, balances); got != want {
		t.Errorf("Total(%v, %d): got %d, want %d", v, balances, got, want)
	}
}

// P13.1: votes for all nodes of a tree, by hand; a vote counts for its own node alone, not for the ancestors.
func TestDirect(t *testing.T) {
	x := grow(0, 1, 0)
	checkDirect(t, x, of(0, 1, 2, 3), powers(4), 1, 2, 4, 8)
	checkDirect(t, x, of(3, 2, 1, 0), powers(4), 8, 4, 2, 1)
	checkDirect(t, x, of(2, 1, 2, 3, 2, 1), powers(6), 0, 34, 21, 8)
	checkDirect(t, x, of(2, 2, 2), []uint64{7, 7, 7}, 0, 0, 21, 0)
	checkDirect(t, x, of(3, 3, 1), []uint64{0, 5, 0}, 0, 0, 0, 5)
	checkDirect(t, grow(), of(0, 0), []uint64{3, 4}, 7)
}

// P13.1: validators without a vote, votes for roots outside of the tree, and nothing at all.
func TestDirectOfNothing(t *testing.T) {
	x := grow(0, 0)
	checkDirect(t, x, of(-1, 1, -1, 2), powers(4), 0, 2, 8)
	checkDirect(t, x, of(3, 1, 77, 2, 256), powers(5), 0, 2, 8)
	checkDirect(t, x, of(-1, -1), powers(2), 0, 0, 0)
	checkDirect(t, x, of(), nil, 0, 0, 0)
	checkDirect(t, x, api.Votes{}, []uint64{}, 0, 0, 0)
	checkDirect(t, grow(), of(-1, 5), powers(2), 0)
}

// P13.1: a vote counts only with Has, whatever its root is, and a node with the zero root has no votes but its own.
func TestDirectNeedsVotes(t *testing.T) {
	x := grow(0, 0)
	v := of(1, 2, 1)
	v.Latest[0].Has = false
	checkDirect(t, x, v, powers(3), 0, 4, 2)
	x.Nodes[2].Root = api.Root{}
	v.Latest = append(v.Latest, api.Vote{}, api.Vote{Has: true}, api.Vote{Epoch: 1})
	checkDirect(t, x, v, powers(6), 0, 4, 16)
}

// P13.1: balances of equivocating validators do not count, but those of all others do.
func TestDirectWithoutEquivocating(t *testing.T) {
	x := grow(0, 1)
	v := of(1, 2, 2, 1, 0, 9)
	for i, want := range [][]uint64{{16, 8, 6}, {16, 9, 4}, {16, 9, 2}, {16, 1, 6}, {0, 9, 6}, {16, 9, 6}} {
		checkDirect(t, x, without(v, i), powers(6), want...)
	}
	checkDirect(t, x, without(v, 0, 2, 3), powers(6), 16, 0, 2)
	checkDirect(t, x, without(v, 0, 1, 2, 3, 4, 5), powers(6), 0, 0, 0)
	checkDirect(t, x, without(v, []int{}...), powers(6), 16, 9, 6)
}

// P13.1: an invalid node weighs nothing; its descendants need not be invalid, and optimistic nodes weigh as valid ones do.
func TestDirectOfInvalidNodes(t *testing.T) {
	v := of(0, 1, 2, 3, 1)
	for status, want := range [][]uint64{{1, 18, 4, 8}, {1, 18, 4, 8}, {0, 0, 0, 0}} {
		checkDirect(t, withStatus(grow(0, 1, 0), status, 0, 1, 2, 3), v, powers(5), want...)
	}
	checkDirect(t, withStatus(grow(0, 1, 0), api.Invalid, 0), v, powers(5), 0, 18, 4, 8)
	checkDirect(t, withStatus(grow(0, 1, 0), api.Invalid, 1), v, powers(5), 1, 0, 4, 8)
	checkDirect(t, withStatus(grow(0, 1, 0), api.Invalid, 1, 2), without(v, 0), powers(5), 0, 0, 0, 8)
	checkDirect(t, withStatus(grow(0, 1, 0), api.Invalid, 3), v, powers(5), 1, 18, 4, 0)
}

// P13.1: only validators with a balance count, also if there are more votes.
func TestDirectOfMoreVotes(t *testing.T) {
	x := grow(0)
	v := of(1, 0, 1, 0, 1)
	for n, want := range [][]uint64{{0, 0}, {0, 1}, {2, 1}, {2, 5}, {10, 5}, {10, 21}} {
		checkDirect(t, x, v, powers(n), want...)
		checkDirect(t, x, without(v, 5), powers(n), want...)
	}
	checkDirect(t, x, without(v, 0, 3, 4), powers(3), 2, 4)
	// What P13.1 leaves to the caller: a validator behind the votes is taken as one without a vote.
	checkDirect(t, x, of(1, 0), powers(4), 2, 1)
	checkDirect(t, x, api.Votes{Equivocating: []int{1, 3}}, powers(4), 0, 0)
}

// P13.1, P13.2, R9: lists of equivocating validators in any order, with repetitions, and with numbers that are no validator's.
func TestStrangeEquivocating(t *testing.T) {
	x := grow(0, 1)
	v := of(1, 2, 2, 1)
	for _, l := range [][]int{{3, 1}, {1, 1, 3, 3, 1}, append([]int{3, 4, 1}, strange...), append(slices.Clone(strange), 4, 1, 3)} {
		checkDirect(t, x, without(v, l...), powers(4), 0, 1, 4)
		checkTotal(t, without(v, l...), powers(4), 5)
	}
	for _, i := range append([]int{4, 5}, strange...) {
		checkDirect(t, x, without(v, i), powers(4), 0, 9, 6)
		checkTotal(t, without(v, i), powers(4), 15)
		checkDirect(t, x, without(of(), i), nil, 0, 0, 0)
		checkTotal(t, without(of(), i), nil, 0)
	}
}

// P13.1, P13.2, R7: sums of balances of MaxTotal.
func TestGreatBalances(t *testing.T) {
	checkDirect(t, grow(0), of(1), []uint64{api.MaxTotal}, 0, api.MaxTotal)
	checkDirect(t, grow(0), of(1, 1, 0), []uint64{api.MaxTotal - 3, 1, 2}, 2, api.MaxTotal-2)
	checkTotal(t, of(1, -1, 0), []uint64{api.MaxTotal - 3, 1, 2}, api.MaxTotal)
	balances := slices.Repeat([]uint64{api.MaxTotal / api.MaxValidators}, api.MaxValidators)
	v := of(make([]int, api.MaxValidators)...)
	checkDirect(t, grow(0), v, balances, api.MaxTotal, 0)
	checkTotal(t, v, balances, api.MaxTotal)
	v = without(v, 0, 1, api.MaxValidators-1)
	checkDirect(t, grow(0), v, balances, api.MaxTotal-3<<52, 0)
	checkTotal(t, v, balances, api.MaxTotal-3<<52)
}

// P13.2: the weights of chains, stars and a bush, by hand; node 0 has all of them.
func TestSubtree(t *testing.T) {
	checkSubtree(t, grow(), []uint64{5}, 5)
	checkSubtree(t, chain(3), powers(3), 7, 6, 4)
	checkSubtree(t, chain(5), powers(5), 31, 30, 28, 24, 16)
	checkSubtree(t, grow(0, 0, 0, 0), powers(5), 31, 2, 4, 8, 16)
	checkSubtree(t, grow(0, 0, 1, 1), powers(5), 31, 26, 4, 8, 16)
	checkSubtree(t, grow(0, 0, 2, 1), powers(5), 31, 18, 12, 8, 16)
	checkSubtree(t, bush(), powers(10), 1023, 2+8+32+128, 4+16+256+512, 8+128, 16+256+512, 32, 64, 128, 256, 512)
	checkSubtree(t, bush(), []uint64{0, 0, 0, 0, 0, 0, 0, 0, 3, 0}, 3, 0, 3, 0, 3, 0, 0, 0, 3, 0)
	checkSubtree(t, bush(), make([]uint64, 10), make([]uint64, 10)...)
}

// P13.2: the sums do not depend on statuses; Direct alone does.
func TestSubtreeOfInvalidNodes(t *testing.T) {
	checkSubtree(t, withStatus(grow(0, 1, 0), api.Invalid, 0, 1, 2, 3), powers(4), 15, 6, 4, 8)
	checkSubtree(t, withStatus(grow(0, 1, 0), api.Invalid, 1), powers(4), 15, 6, 4, 8)
	checkSubtree(t, withStatus(grow(0, 1, 0), api.Invalid, 2, 3), powers(4), 15, 6, 4, 8)
}

// P13.2, R7: a sum of 2 MaxTotal, in one node or in many.
func TestGreatSums(t *testing.T) {
	const most = 2 * api.MaxTotal
	checkSubtree(t, grow(), []uint64{most}, most)
	checkSubtree(t, chain(3), []uint64{0, 0, most}, most, most, most)
	checkSubtree(t, chain(3), []uint64{most, 0, 0}, most, 0, 0)
	checkSubtree(t, chain(3), []uint64{1, most - 3, 2}, most, most-1, 2)
	checkSubtree(t, grow(0, 0), []uint64{0, api.MaxTotal, api.MaxTotal}, most, api.MaxTotal, api.MaxTotal)
	direct := slices.Repeat([]uint64{most / api.MaxNodes}, api.MaxNodes)
	sums := Subtree(chain(api.MaxNodes), direct)
	for i, got := range sums {
		if want := most / api.MaxNodes * uint64(api.MaxNodes-i); got != want {
			t.Fatalf("node %d: got %d, want %d", i, got, want)
		}
	}
	checkSubtree(t, grow(make([]int, api.MaxNodes-1)...), direct, append([]uint64{most}, direct[1:]...)...)
}

// P13.2: what the document leaves to the caller: missing numbers are taken as 0, and further ones do not count.
func TestSubtreeOfOtherNumbers(t *testing.T) {
	checkSubtree(t, chain(3), nil, 0, 0, 0)
	checkSubtree(t, chain(3), powers(2), 3, 2, 0)
	checkSubtree(t, chain(3), powers(5), 7, 6, 4)
}

// P13.2: the total counts validators with and without votes, for whatever root, but no equivocating ones.
func TestTotal(t *testing.T) {
	checkTotal(t, api.Votes{}, nil, 0)
	checkTotal(t, of(1, 2), []uint64{}, 0)
	checkTotal(t, of(0, 0), []uint64{5, 7}, 12)
	checkTotal(t, of(-1, -1), []uint64{5, 7}, 12)
	checkTotal(t, of(99, -1, 3), powers(3), 7)
	checkTotal(t, of(1, 2, 3), powers(2), 3)
	checkTotal(t, api.Votes{}, []uint64{5, 7}, 12)
	for i, want := range []uint64{30, 29, 27, 23, 15, 31} {
		checkTotal(t, without(of(0, -1, 1), i), powers(5), want)
	}
	checkTotal(t, without(of(), 1, 2, 4), powers(5), 9)
	checkTotal(t, without(of(), 0, 1, 2), powers(3), 0)
	checkTotal(t, without(of(1, 1, 1), []int{}...), powers(3), 7)
}

// P13.2: all trees with up to seven nodes.
func TestSubtreeOfAllSmallTrees(t *testing.T) {
	ups := []int{}
	var visit func()
	visit = func() {
		x := grow(ups...)
		direct := powers(len(x.Nodes))
		checkSubtree(t, x, direct, subtreeOf(x, direct)...)
		if len(ups) == 6 {
			return
		}
		for up := range len(x.Nodes) {
			ups = append(ups, up)
			visit()
			ups = ups[:len(ups)-1]
		}
	}
	visit()
}

// randomTree returns a valid tree with n nodes and statuses that need not fit together.
func randomTree(random *rand.Rand, n int) api.Tree {
	ups := make([]int, n-1)
	for i := range ups {
		ups[i] = random.Intn(i + 1)
	}
	x := grow(ups...)
	for i := range x.Nodes {
		x.Nodes[i].Status = random.Intn(3)
	}
	return x
}

// randomVotes returns votes of some validators for roots of up to n nodes and for a few others.
func randomVotes(random *rand.Rand, validators, n int) api.Votes {
	l := make([]int, validators)
	for i := range l {
		l[i] = random.Intn(n+4) - 2
	}
	v := of(l...)
	for i := range validators {
		if random.Intn(5) == 0 {
			v.Equivocating = append(v.Equivocating, i)
		}
	}
	return v
}

// P13.1, P13.2: random trees and votes; together, node 0 has the weight of all votes that count.
func TestRandom(t *testing.T) {
	random := rand.New(rand.NewSource(1))
	for range 400 {
		n, validators := 1+random.Intn(20), random.Intn(40)
		x, v := randomTree(random, n), randomVotes(random, validators+random.Intn(3), n)
		balances := make([]uint64, validators)
		for i := range balances {
			balances[i] = uint64(random.Int63n(api.MaxTotal / 40))
		}
		direct := directOf(x, v, balances)
		checkDirect(t, x, v, balances, direct...)
		checkSubtree(t, x, direct, subtreeOf(x, direct)...)
		checkTotal(t, v, balances, totalOf(v, balances))
	}
}

// P13.1: as many votes and nodes as there may be.
func TestGreatTree(t *testing.T) {
	random := rand.New(rand.NewSource(2))
	x, v := randomTree(random, api.MaxNodes), randomVotes(random, api.MaxValidators, api.MaxNodes)
	balances := make([]uint64, api.MaxValidators)
	for i := range balances {
		balances[i] = uint64(random.Int63n(api.MaxTotal / api.MaxValidators))
	}
	if got := Direct(x, v, balances); !slices.Equal(got, directOf(x, v, balances)) {
		t.Error("Direct")
	}
	if got := Total(v, balances); got != totalOf(v, balances) {
		t.Errorf("Total: got %d", got)
	}
}

// R2: no function changes an argument or its spare capacity.
func TestArgumentsStay(t *testing.T) {
	nodes := withStatus(bush(), api.Invalid, 4).Nodes
	latest := of(1, 2, 3, 4, 5, 6).Latest
	equivocating, numbers := []int{1, 3, 4, 5}, powers(12)
	all, votes := slices.Clone(nodes), slices.Clone(latest)
	x := api.Tree{Nodes: nodes[:5]}
	v := api.Votes{Latest: latest[:5], Equivocating: equivocating[:2]}
	checkDirect(t, x, v, numbers[:5], 0, 1, 0, 4, 0)
	checkDirect(t, x, v, numbers[:3], 0, 1, 0, 4, 0)
	checkTotal(t, v, numbers[:5], 21)
	checkSubtree(t, x, numbers[:5], 31, 10, 20, 8, 16)
	if !slices.Equal(nodes, all) || !slices.Equal(latest, votes) {
		t.Error("the tree or the votes were changed")
	}
	if !slices.Equal(equivocating, []int{1, 3, 4, 5}) || !slices.Equal(numbers, powers(12)) {
		t.Errorf("got %d and %d", equivocating, numbers)
	}
}

// R2, R3: results are new memory in every call, with their spare capacity.
func TestResultsAreNewMemory(t *testing.T) {
	x, v, balances, direct := bush(), of(1, 2, 2, 9), powers(4), powers(10)
	results := []func() []uint64{
		func() []uint64 { return Direct(x, v, balances) },
		func() []uint64 { return Subtree(x, direct) },
		func() []uint64 { return Subtree(grow(), direct[:1]) },
	}
	wants := [][]uint64{{0, 1, 6, 0, 0, 0, 0, 0, 0, 8}, subtreeOf(x, direct), {1}}
	for i, result := range results {
		first, second := result(), result()
		for j := range first[:cap(first)] {
			first[:cap(first)][j] = 77
		}
		if !slices.Equal(second, wants[i]) || !slices.Equal(result(), wants[i]) {
			t.Errorf("result %d became %d, then %d", i, second, result())
		}
	}
	if !slices.Equal(direct, powers(10)) || !slices.Equal(balances, powers(4)) {
		t.Errorf("got %d and %d", direct, balances)
	}
}
