package verdict

import (
	"math"
	"slices"
	"strings"

	"forkhead/ancestry"
	"forkhead/api"
)

// names are the letters of the statuses, in the order of their numbers.
const names = "ovx"

// shape are the parents of a tree in which 0 has the children 1 and 2, 1 has 3 and 4, 2 has 5, 3 has 6, 6 has 7.
var shape = []int{-1, 0, 0, 1, 1, 2, 3, 6}

// strange are numbers that are no index of any tree.
var strange = []int{math.MinInt, -1 << 32, -2, -1, api.MaxNodes + 1, 1 << 32, math.MaxInt}

// numbered returns the root with the number n.
func numbered(n int) api.Root {
	return api.Root{0: 9, 15: byte(n), 16: byte(n >> 8)}
}

// hash returns the payload with this letter; '.' stands for none.
func hash(letter byte) api.Root {
	if letter == '.' {
		return api.Root{}
	}
	return api.Root{0: 9, 16: letter}
}

// block returns a block with this payload, none of whose other fields is zero.
func block(i, up int, slot uint64, payload api.Root) api.Block {
	return api.Block{
		Pulled: api.Pulled{PulledJustified: api.Checkpoint{Epoch: 1}, PulledFinalized: api.Checkpoint{Epoch: 2}},
		Slot:   slot, Root: numbered(i), Parent: numbered(up), Payload: payload,
		Difficulty: api.Wide{1, 2, 3, 4}, ParentDifficulty: api.Wide{5, 6, 7, 8},
		Justified: api.Checkpoint{Epoch: 3}, Finalized: api.Checkpoint{Epoch: 4}, Timely: true,
	}
}

// tree returns the valid tree in which node i has the parent ups[i], and the payload and the status with the letters
// payloads[i] and statuses[i].
func tree(ups []int, payloads, statuses string) api.Tree {
	x := api.Tree{}
	for i, up := range ups {
		slot := uint64(7)
		if i > 0 {
			slot = x.Nodes[up].Slot + 2
		}
		n := api.Node{Block: block(i, up, slot, hash(payloads[i])), Up: up, Status: strings.IndexByte(names, statuses[i])}
		x.Nodes = append(x.Nodes, n)
	}
	return x
}

// withStatuses returns a copy of the tree with these statuses.
func withStatuses(x api.Tree, statuses string) api.Tree {
	y := api.Tree{Nodes: slices.Clone(x.Nodes)}
	for i := range y.Nodes {
		y.Nodes[i].Status = strings.IndexByte(names, statuses[i])
	}
	return y
}

// statusesOf returns the letters of the statuses of a tree.
func statusesOf(x api.Tree) string {
	b := []byte{}
	for _, n := range x.Nodes {
		b = append(b, names[n.Status])
	}
	return string(b)
}

// payloadsOf returns the letters of the payloads of a tree.
func payloadsOf(x api.Tree) string {
	b := []byte{}
	for _, n := range x.Nodes {
		b = append(b, n.Payload[16])
	}
	return strings.ReplaceAll(string(b), "\x00", ".")
}

// chain returns the parents of a tree with n nodes and one leaf.
func chain(n int) []int {
	ups := make([]int, n)
	for i := range ups {
		ups[i] = i - 1
	}
	return ups
}

// words returns all words of n of these letters.
func words(letters string, n int) []string {
	l := []string{""}
	for range n {
		longer := []string{}
		for _, word := range l {
			for _, letter := range letters {
				longer = append(longer, word+string(letter))
			}
		}
		l = longer
	}
	return l
}

// shapes returns the parents of all trees with n nodes.
func shapes(n int) [][]int {
	l := [][]int{{-1}}
	for size := 1; size < n; size++ {
		larger := [][]int{}
		for _, ups := range l {
			for up := range ups {
				larger = append(larger, append(slices.Clone(ups), up))
			}
		}
		l = larger
	}
	return l
}

// reachOf is P17.1, sentence by sentence.
func reachOf(x api.Tree, i int, latest api.Root) (valid, condemned int) {
	if i < 0 || i >= len(x.Nodes) {
		return -1, -1
	}
	path := []int{}
	for a := range x.Nodes {
		if ancestry.IsAncestor(x, a, i) {
			path = append(path, a)
		}
	}
	if latest == (api.Root{}) {
		place := slices.IndexFunc(path, func(a int) bool { return x.Nodes[a].Payload != api.Root{} })
		if place == -1 {
			return -1, i
		}
		return append([]int{-1}, path...)[place], path[place]
	}
	valid, condemned = -1, i
	for place, a := range path {
		if a != i && x.Nodes[a].Payload == latest {
			valid, condemned = a, path[place+1]
		}
	}
	return valid, condemned
}

// judgeOf is P17.2 for a closed tree: the letters of the statuses, or an error.
func judgeOf(x api.Tree, i int, v api.Verdict, keep ...int) (string, api.Errno) {
	if i < 0 || i >= len(x.Nodes) {
		return "", api.ErrUnknown
	}
	if v.Kind < 1 || v.Kind > 4 {
		return "", api.ErrForm
	}
	raised, condemned := -1, -1
	switch v.Kind {
	case api.VerdictValid:
		raised = i
	case api.VerdictInvalid:
		raised, condemned = reachOf(x, i, v.Latest)
	}
	word := []byte{}
	for j, n := range x.Nodes {
		isRaised, isCondemned := ancestry.IsAncestor(x, j, raised), ancestry.IsAncestor(x, condemned, j)
		isKept := v.Kind == api.VerdictInvalid && slices.Contains(keep, j)
		if isCondemned && (isKept || n.Status == api.Valid) || isRaised && n.Status == api.Invalid {
			return "", api.ErrContradiction
		}
		switch {
		case isRaised:
			word = append(word, 'v')
		case isCondemned:
			word = append(word, 'x')
		default:
			word = append(word, names[n.Status])
		}
	}
	return string(word), api.OK
}
