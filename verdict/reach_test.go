package verdict

import (
	"math/rand"
	"slices"
	"strings"
	"testing"

	"forkhead/api"
)

// checkReach checks what Reach returns, and that the tree stays as it is.
func checkReach(t *testing.T, x api.Tree, i int, latest api.Root, valid, condemned int) {
	t.Helper()
	before := slices.Clone(x.Nodes)
	gotValid, gotCondemned := Reach(x, i, latest)
	if gotValid != valid || gotCondemned != condemned {
		t.Fatalf("node %d, latest %v: got %d, %d, want %d, %d", i, latest, gotValid, gotCondemned, valid, condemned)
	}
	if !slices.Equal(x.Nodes, before) {
		t.Fatalf("node %d, latest %v: the tree became %v, from %v", i, latest, x, before)
	}
}

// P17.1: one tree, by hand. The paths to its leaves 4, 5 and 7 have the payloads "..q", "..p" and "..ppr".
func TestReach(t *testing.T) {
	x := tree(shape, "...pqppr", "oooooooo")
	cases := []struct {
		i                int
		latest           byte
		valid, condemned int
	}{
		// The last strict ancestor with the payload counts.
		{7, 'p', 6, 7}, {6, 'p', 3, 6}, {3, 'p', -1, 3}, {5, 'p', -1, 5}, {1, 'p', -1, 1}, {0, 'p', -1, 0},
		// The payload of another branch, of the node itself, of a descendant or of nowhere.
		{7, 'q', -1, 7}, {4, 'q', -1, 4}, {4, 'p', -1, 4}, {7, 'r', -1, 7}, {6, 'r', -1, 6}, {3, 'r', -1, 3}, {2, 'p', -1, 2},
		{7, 'z', -1, 7}, {0, 'z', -1, 0}, {5, 'z', -1, 5},
		// Without a latest payload the first payload of the path counts, also that of the node itself.
		{7, '.', 1, 3}, {6, '.', 1, 3}, {3, '.', 1, 3}, {4, '.', 1, 4}, {5, '.', 2, 5},
		// A path without payload.
		{0, '.', -1, 0}, {1, '.', -1, 1}, {2, '.', -1, 2},
	}
	for _, c := range cases {
		checkReach(t, x, c.i, hash(c.latest), c.valid, c.condemned)
	}
}

// P17.1: payloads that begin at node 0, stop on the way or stand alone.
func TestReachThroughGaps(t *testing.T) {
	cases := []struct {
		payloads         string
		i                int
		latest           byte
		valid, condemned int
	}{
		{"pqr", 2, '.', -1, 0}, {"pqr", 0, '.', -1, 0}, {"pqr", 2, 'p', 0, 1}, {"pqr", 1, 'p', 0, 1}, {"pqr", 0, 'p', -1, 0},
		{"p..", 2, '.', -1, 0}, {"p..", 2, 'p', 0, 1}, {"p..", 1, 'p', 0, 1}, {".p.", 2, '.', 0, 1}, {".p.", 2, 'p', 1, 2},
		{"p.p", 2, 'p', 0, 1}, {"p.p.", 3, 'p', 2, 3}, {"ppp", 2, 'p', 1, 2}, {"ppp", 1, 'p', 0, 1}, {"..p", 2, '.', 1, 2},
		{"...", 2, '.', -1, 2}, {"...", 2, 'p', -1, 2}, {"p", 0, '.', -1, 0}, {"p", 0, 'p', -1, 0}, {".", 0, '.', -1, 0},
	}
	for _, c := range cases {
		x := tree(chain(len(c.payloads)), c.payloads, strings.Repeat("o", len(c.payloads)))
		checkReach(t, x, c.i, hash(c.latest), c.valid, c.condemned)
	}
}

// P17.1: an index that is no node, whatever the payload is.
func TestReachOfNoNode(t *testing.T) {
	for _, payloads := range []string{"........", "pppppppp", ".p.pqppr"} {
		x := tree(shape, payloads, "oooooooo")
		for _, i := range append([]int{8, 9}, strange...) {
			for _, letter := range []byte(".pz") {
				checkReach(t, x, i, hash(letter), -1, -1)
			}
		}
	}
}

// P17.1: the statuses do not matter.
func TestReachOfAnyStatuses(t *testing.T) {
	for _, word := range []string{"oooooooo", "vvvvvvvv", "xxxxxxxx", "vvvvooox", "vvxxoxxx"} {
		x := tree(shape, "...pqppr", word)
		checkReach(t, x, 7, hash('p'), 6, 7)
		checkReach(t, x, 7, hash('.'), 1, 3)
		checkReach(t, x, 7, hash('z'), -1, 7)
	}
}

// P17.1: every byte of a payload counts, both as a difference and as one that is not zero.
func TestEveryByteOfPayloads(t *testing.T) {
	for place := range len(api.Root{}) {
		for _, bit := range []byte{1, 128, 255} {
			one, other := api.Root{}, hash('p')
			one[place] = bit
			other[place] ^= bit
			x := tree(chain(4), ".p..", "oooo")
			checkReach(t, x, 3, one, -1, 3)
			checkReach(t, x, 3, other, -1, 3)
			x.Nodes[1].Payload = one
			checkReach(t, x, 3, one, 1, 2)
			checkReach(t, x, 3, api.Root{}, 0, 1)
			x.Nodes[2].Payload = hash('p')
			checkReach(t, x, 3, one, 1, 2)
			checkReach(t, x, 3, other, -1, 3)
		}
	}
}

// P17.1: a payload is found by the Payload of a node alone, not by its other roots.
func TestReachIgnoresOtherRoots(t *testing.T) {
	x := tree(chain(4), ".pqr", "oooo")
	for i := range x.Nodes {
		x.Nodes[i].Justified.Root, x.Nodes[i].Finalized.Root = numbered(50), numbered(51)
		checkReach(t, x, 3, numbered(i), -1, 3)
	}
	checkReach(t, x, 3, numbered(50), -1, 3)
	checkReach(t, x, 3, numbered(51), -1, 3)
}

// P17.1: all trees of up to five nodes with two payloads.
func TestReachOfSmallTrees(t *testing.T) {
	for n := 1; n <= 5; n++ {
		for _, ups := range shapes(n) {
			for _, payloads := range words(".pq", n) {
				x := tree(ups, payloads, "ooooo")
				for i := -1; i <= n; i++ {
					for _, letter := range []byte(".pqz") {
						valid, condemned := reachOf(x, i, hash(letter))
						checkReach(t, x, i, hash(letter), valid, condemned)
					}
				}
			}
		}
	}
}

// P17.1: trees of MaxNodes nodes.
func TestReachOfGreatTrees(t *testing.T) {
	n := api.MaxNodes
	none, o := strings.Repeat(".", n-2), strings.Repeat("o", n)
	x := tree(chain(n), none+"p.", o)
	checkReach(t, x, n-1, hash('p'), n-2, n-1)
	checkReach(t, x, n-1, hash('.'), n-3, n-2)
	checkReach(t, x, n-3, hash('.'), -1, n-3)
	checkReach(t, x, n, hash('p'), -1, -1)
	x = tree(chain(n), "p"+none+"q", o)
	checkReach(t, x, n-1, hash('p'), 0, 1)
	checkReach(t, x, n-1, hash('q'), -1, n-1)
	checkReach(t, x, n-1, hash('.'), -1, 0)
}

// P17.1: random trees with few payloads.
func TestReachOfRandomTrees(t *testing.T) {
	random := rand.New(rand.NewSource(1))
	for range 300 {
		x := randomTree(random, 40)
		for i := range x.Nodes {
			for _, letter := range []byte(".pqrz") {
				valid, condemned := reachOf(x, i, hash(letter))
				checkReach(t, x, i, hash(letter), valid, condemned)
			}
		}
	}
}

// randomTree returns an optimistic tree with n nodes and a few payloads.
func randomTree(random *rand.Rand, n int) api.Tree {
	ups, payloads := []int{-1}, []byte{'.'}
	for i := 1; i < n; i++ {
		ups = append(ups, max(random.Intn(i), random.Intn(i)))
		payloads = append(payloads, "....pqrst"[random.Intn(9)])
	}
	return tree(ups, string(payloads), strings.Repeat("o", n))
}
