package verdict

import (
	"math"
	"math/rand"
	"slices"
	"strings"
	"testing"

	"forkhead/api"
	"forkhead/status"
)

// judgeCase is a call for a tree: a verdict about node i; the result's statuses, or an error where want is empty.
type judgeCase struct {
	statuses string
	i        int
	v        api.Verdict
	keep     []int
	want     string
	e        api.Errno
}

// verdictOf returns a verdict of this kind, with the payload of this letter.
func verdictOf(kind int, letter byte) api.Verdict {
	return api.Verdict{Tagged: api.Tagged{Tag: 7}, Kind: kind, Latest: hash(letter)}
}

// bad returns an invalid verdict with the payload of this letter as the latest valid one.
func bad(letter byte) api.Verdict {
	return verdictOf(api.VerdictInvalid, letter)
}

// checkJudge checks what Judge returns, and that its arguments stay as they are.
func checkJudge(t *testing.T, x api.Tree, c judgeCase) api.Tree {
	t.Helper()
	before, keep, want := slices.Clone(x.Nodes), slices.Clone(c.keep), []api.Node(nil)
	if c.e == api.OK {
		want = withStatuses(x, c.want).Nodes
	}
	got, e := Judge(x, c.i, c.v, c.keep...)
	if e != c.e || !slices.Equal(got.Nodes, want) {
		t.Fatalf("%s %s, %+v: got %s, %d", payloadsOf(x), statusesOf(x), c, statusesOf(got), e)
	}
	if !slices.Equal(x.Nodes, before) || !slices.Equal(c.keep, keep) {
		t.Fatalf("%+v: the tree became %v, from %v, keep %d, from %d", c, x, before, c.keep, keep)
	}
	if e == api.OK {
		checkSteps(t, x, got)
	}
	return got
}

// checkSteps checks P17.3: y is closed and has no other changes against x than from optimistic ones.
func checkSteps(t *testing.T, x, y api.Tree) {
	t.Helper()
	if e := status.Validate(y); e != api.OK {
		t.Fatalf("%s, from %s: Validate: got %d", statusesOf(y), statusesOf(x), e)
	}
	for i, n := range y.Nodes {
		if old := x.Nodes[i].Status; old != n.Status && old != api.Optimistic {
			t.Fatalf("node %d: the status became %d, from %d", i, n.Status, old)
		}
	}
}

// checkCases checks the results of Judge for trees that have the shape and these payloads.
func checkCases(t *testing.T, payloads string, cases ...judgeCase) {
	t.Helper()
	for _, c := range cases {
		x := tree(shape, payloads, c.statuses)
		if e := status.Validate(x); e != api.OK {
			t.Fatalf("%s is not closed: %d", c.statuses, e)
		}
		checkJudge(t, x, c)
	}
}

// P17.2: the chapter's example.
func TestExample(t *testing.T) {
	x := tree(chain(4), ".pqr", "vooo")
	checkJudge(t, x, judgeCase{i: 3, v: bad('p'), want: "vvxx"})
	checkJudge(t, x, judgeCase{i: 3, v: bad('.'), want: "vxxx"})
	checkJudge(t, x, judgeCase{i: 3, v: bad('z'), want: "voox"})
}

// P17.2: a valid verdict raises the ancestors, whatever Latest and keep are.
func TestValidVerdicts(t *testing.T) {
	for _, letter := range []byte(".pqz") {
		valid := verdictOf(api.VerdictValid, letter)
		checkCases(t, ".qqpqppr",
			judgeCase{"oooooooo", 0, valid, nil, "vooooooo", api.OK},
			judgeCase{"vooooooo", 1, valid, nil, "vvoooooo", api.OK},
			judgeCase{"vooooooo", 6, valid, nil, "vvovoovo", api.OK},
			judgeCase{"vooooooo", 5, valid, []int{0, 5, 7}, "vovoovoo", api.OK},
			judgeCase{"voxooxoo", 4, valid, []int{1, 3, 6}, "vvxovxoo", api.OK},
			judgeCase{"vvovoovo", 3, valid, nil, "vvovoovo", api.OK},
			judgeCase{"oooooooo", 7, valid, nil, "vvovoovv", api.OK},
			judgeCase{"voooooxx", 7, valid, nil, "", api.ErrContradiction},
			judgeCase{"voxooxoo", 2, valid, nil, "", api.ErrContradiction},
			judgeCase{"xxxxxxxx", 0, valid, []int{4}, "", api.ErrContradiction},
			judgeCase{"voxooxoo", 5, valid, nil, "", api.ErrContradiction},
		)
	}
}

// P17.2: invalid verdicts by hand: the latest valid payload and its ancestors become valid, the next node on the path and
// its descendants invalid, and the other branches stay.
func TestInvalidVerdicts(t *testing.T) {
	checkCases(t, "..qpqprs",
		judgeCase{"oooooooo", 7, bad('r'), nil, "vvovoovx", api.OK},
		judgeCase{"oooooooo", 7, bad('p'), nil, "vvovooxx", api.OK},
		judgeCase{"oooooooo", 6, bad('p'), nil, "vvovooxx", api.OK},
		judgeCase{"oooooooo", 5, bad('q'), nil, "vovooxoo", api.OK},
		judgeCase{"vvoooooo", 7, bad('p'), nil, "vvovooxx", api.OK},
		judgeCase{"vvovooxx", 7, bad('p'), nil, "vvovooxx", api.OK},
		judgeCase{"vvovoovo", 7, bad('p'), nil, "", api.ErrContradiction},
		judgeCase{"ooxxoxxx", 5, bad('q'), nil, "", api.ErrContradiction},
		// An unknown payload, also that of the node itself, condemns the node and its descendants alone.
		judgeCase{"oooooooo", 6, bad('z'), nil, "ooooooxx", api.OK},
		judgeCase{"oooooooo", 6, bad('r'), nil, "ooooooxx", api.OK},
		judgeCase{"oooooooo", 6, bad('q'), nil, "ooooooxx", api.OK},
		judgeCase{"oooooooo", 6, bad('s'), nil, "ooooooxx", api.OK},
		judgeCase{"vooooooo", 1, bad('z'), nil, "vxoxxoxx", api.OK},
		judgeCase{"oooooooo", 0, bad('z'), nil, "xxxxxxxx", api.OK},
		judgeCase{"vvovoooo", 6, bad('z'), nil, "vvovooxx", api.OK},
		judgeCase{"vvovoovo", 6, bad('z'), nil, "", api.ErrContradiction},
		judgeCase{"vvovoooo", 1, bad('z'), nil, "", api.ErrContradiction},
		// No payload at all is valid.
		judgeCase{"oooooooo", 7, bad('.'), nil, "vvoxooxx", api.OK},
		judgeCase{"oooooooo", 5, bad('.'), nil, "voxooxoo", api.OK},
		judgeCase{"oooooooo", 4, bad('.'), nil, "vvooxooo", api.OK},
		judgeCase{"oooooooo", 1, bad('.'), nil, "oxoxxoxx", api.OK},
		judgeCase{"oooooooo", 0, bad('.'), nil, "xxxxxxxx", api.OK},
		judgeCase{"vvovoooo", 7, bad('.'), nil, "", api.ErrContradiction},
		judgeCase{"oxoxxoxx", 7, bad('.'), nil, "", api.ErrContradiction},
		judgeCase{"vvooxooo", 4, bad('.'), nil, "vvooxooo", api.OK},
		judgeCase{"vooooooo", 1, bad('.'), nil, "vxoxxoxx", api.OK},
		judgeCase{"vooooooo", 0, bad('.'), nil, "", api.ErrContradiction},
	)
}

// P17.2: node 0 has a payload, so that nothing is valid without a latest payload.
func TestPayloadOfTheFirstNode(t *testing.T) {
	checkCases(t, "pp.qqqrs",
		judgeCase{"oooooooo", 7, bad('.'), nil, "xxxxxxxx", api.OK},
		judgeCase{"oooooooo", 2, bad('.'), nil, "xxxxxxxx", api.OK},
		judgeCase{"oooooooo", 0, bad('.'), nil, "xxxxxxxx", api.OK},
		judgeCase{"oooooooo", 2, bad('p'), nil, "voxooxoo", api.OK},
		judgeCase{"oooooooo", 1, bad('p'), nil, "vxoxxoxx", api.OK},
		judgeCase{"oooooooo", 4, bad('p'), nil, "vvooxooo", api.OK},
		judgeCase{"oooooooo", 0, bad('p'), nil, "xxxxxxxx", api.OK},
		judgeCase{"vooooooo", 7, bad('.'), nil, "", api.ErrContradiction},
	)
}

// P17.2: a node of keep may not be condemned, neither itself nor with an ancestor; other nodes are kept anyway.
func TestKeep(t *testing.T) {
	x := tree(shape, "..qpqprs", "oooooooo")
	for _, k := range []struct {
		i      int
		letter byte
		keep   []int
		e      api.Errno
	}{
		{6, 'p', []int{6}, api.ErrContradiction}, {6, 'p', []int{7}, api.ErrContradiction}, {7, 'p', []int{6}, api.ErrContradiction},
		{6, 'p', []int{3}, api.OK}, {6, 'p', []int{0, 1, 3, 2, 4, 5}, api.OK}, {7, 'r', []int{6}, api.OK},
		{7, 'r', []int{7}, api.ErrContradiction}, {6, 'p', []int{0, 1, 3, 7}, api.ErrContradiction},
		{6, 'p', []int{7, 0, 0, 1}, api.ErrContradiction}, {6, 'p', []int{4, 4, 5, 5, 4}, api.OK}, {6, 'p', []int{}, api.OK},
		{7, '.', []int{3}, api.ErrContradiction}, {7, '.', []int{6}, api.ErrContradiction}, {7, '.', []int{4}, api.OK},
		{7, '.', []int{1, 0, 2}, api.OK}, {0, '.', []int{0}, api.ErrContradiction}, {0, '.', []int{5}, api.ErrContradiction},
		{1, 'z', []int{2, 5, 0}, api.OK}, {1, 'z', []int{2, 5, 0, 4}, api.ErrContradiction}, {5, 'q', []int{2}, api.OK},
		// Numbers that are no nodes are not condemned.
		{6, 'p', strange, api.OK}, {0, 'z', append([]int{8, 9}, strange...), api.OK},
		{6, 'p', append(slices.Clone(strange), 6), api.ErrContradiction},
	} {
		c := judgeCase{i: k.i, v: bad(k.letter), keep: k.keep, e: k.e}
		if k.e == api.OK {
			c.want, _ = judgeOf(x, k.i, c.v)
		}
		checkJudge(t, x, c)
	}
	// A node that is invalid already is condemned once more.
	x = tree(shape, "..qpqprs", "ooooooxx")
	checkJudge(t, x, judgeCase{i: 7, v: bad('p'), keep: []int{7}, e: api.ErrContradiction})
	checkJudge(t, x, judgeCase{i: 7, v: bad('p'), keep: []int{3}, want: "vvovooxx"})
}

// P17.2: verdicts that say nothing leave the tree as it is, whatever the statuses, Latest and keep are.
func TestVerdictsWithoutAnswer(t *testing.T) {
	for _, kind := range []int{api.VerdictSyncing, api.VerdictTimeout} {
		for _, word := range []string{"oooooooo", "vvvvvvvv", "xxxxxxxx", "vvxvoxxx"} {
			for i := range shape {
				for _, letter := range []byte(".pz") {
					checkCases(t, "..qpqprs", judgeCase{word, i, verdictOf(kind, letter), nil, word, api.OK})
					checkCases(t, "..qpqprs", judgeCase{word, i, verdictOf(kind, letter), []int{0, i, 7, -1}, word, api.OK})
				}
			}
		}
	}
}

// P17.2: an index that is no node, and a kind that is none, in this order.
func TestErrorsOfArguments(t *testing.T) {
	kinds := []int{math.MinInt, -1 << 32, -1, api.VerdictNone, 5, 6, 1<<32 + api.VerdictValid, math.MaxInt}
	for _, word := range []string{"oooooooo", "vvvvvvvv", "xxxxxxxx", "vvxvoxxx"} {
		x := tree(shape, "..qpqprs", word)
		for _, kind := range kinds {
			for i := range shape {
				checkJudge(t, x, judgeCase{i: i, v: verdictOf(kind, 'p'), keep: []int{i}, e: api.ErrForm})
			}
		}
		for _, i := range append([]int{8, 9}, strange...) {
			for _, kind := range append([]int{1, 2, 3, 4}, kinds...) {
				checkJudge(t, x, judgeCase{i: i, v: verdictOf(kind, 'p'), keep: []int{0, i}, e: api.ErrUnknown})
				checkJudge(t, x, judgeCase{i: i, v: verdictOf(kind, '.'), e: api.ErrUnknown})
			}
		}
	}
}

// P17.2: the tag of a verdict does not matter.
func TestTagsDoNotMatter(t *testing.T) {
	for _, tag := range []uint64{0, 1, 1 << 62, math.MaxUint64} {
		v := bad('p')
		v.Tag = tag
		checkCases(t, "..qpqprs", judgeCase{"oooooooo", 6, v, nil, "vvovooxx", api.OK})
	}
}

// checkAll checks all verdicts about all nodes of a tree, with one node to keep or none.
func checkAll(t *testing.T, x api.Tree) {
	t.Helper()
	for i := -1; i <= len(x.Nodes); i++ {
		for kind := api.VerdictNone; kind <= api.VerdictTimeout+1; kind++ {
			for _, letter := range []byte(".pqz") {
				c := judgeCase{i: i, v: verdictOf(kind, letter)}
				c.want, c.e = judgeOf(x, i, c.v)
				checkJudge(t, x, c)
				for k := range x.Nodes {
					c.keep = []int{k}
					c.want, c.e = judgeOf(x, i, c.v, k)
					checkJudge(t, x, c)
				}
			}
		}
	}
}

// P17.2, P17.3: all closed trees of up to three nodes, and those of four nodes with one payload at the most.
func TestVerdictsAboutSmallTrees(t *testing.T) {
	for n := 1; n <= 4; n++ {
		letters := ".pq"
		if n == 4 {
			letters = ".p"
		}
		for _, ups := range shapes(n) {
			for _, statuses := range words(names, n) {
				if status.Validate(tree(ups, "....", statuses)) != api.OK {
					continue
				}
				for _, payloads := range words(letters, n) {
					checkAll(t, tree(ups, payloads, statuses))
				}
			}
		}
	}
}

// P17.2, P17.3, T2: random trees under one verdict after another, until few nodes are optimistic.
func TestVerdictsAboutRandomTrees(t *testing.T) {
	random, seen := rand.New(rand.NewSource(2)), map[api.Errno]int{}
	for range 100 {
		x := randomTree(random, 30)
		for range 60 {
			i, v := random.Intn(31), verdictOf(random.Intn(5), ".pqrstz"[random.Intn(7)])
			keep := []int{random.Intn(30), random.Intn(30)}[:random.Intn(3)]
			want, e := judgeOf(x, i, v, keep...)
			y := checkJudge(t, x, judgeCase{i: i, v: v, keep: keep, want: want, e: e})
			if e == api.OK {
				x = y
			}
			seen[e]++
		}
	}
	for _, e := range []api.Errno{api.OK, api.ErrUnknown, api.ErrForm, api.ErrContradiction} {
		if seen[e] < 100 {
			t.Errorf("error %d: only %d verdicts", e, seen[e])
		}
	}
}

// P17.2: trees of MaxNodes nodes, and as many nodes to keep.
func TestVerdictsAboutGreatTrees(t *testing.T) {
	n := api.MaxNodes
	o, v, bads, all := strings.Repeat("o", n), strings.Repeat("v", n), strings.Repeat("x", n), make([]int, n)
	for i := range all {
		all[i] = i
	}
	x := tree(chain(n), strings.Repeat(".", n-3)+"pqr", o)
	checkJudge(t, x, judgeCase{i: n - 1, v: verdictOf(api.VerdictValid, '.'), keep: all, want: v})
	checkJudge(t, x, judgeCase{i: n - 1, v: bad('q'), keep: all[:n-1], want: v[1:] + "x"})
	checkJudge(t, x, judgeCase{i: n - 1, v: bad('.'), keep: all[:n-3], want: v[3:] + "xxx"})
	checkJudge(t, x, judgeCase{i: 0, v: bad('z'), want: bads})
	checkJudge(t, x, judgeCase{i: n - 1, v: bad('q'), keep: all, e: api.ErrContradiction})
	checkJudge(t, x, judgeCase{i: n, v: bad('q'), keep: all, e: api.ErrUnknown})
}

// R2, R3: every result is new memory, also where nothing changes, and spare capacity stays as it is.
func TestResultsAreNewMemory(t *testing.T) {
	for _, c := range []judgeCase{
		{"ooooo", 3, verdictOf(api.VerdictValid, '.'), nil, "vvovo", api.OK},
		{"vvovo", 3, verdictOf(api.VerdictValid, '.'), nil, "vvovo", api.OK},
		{"ooooo", 3, bad('q'), []int{0, 2}, "vvoxo", api.OK},
		{"vvoxo", 3, bad('q'), []int{0, 2}, "vvoxo", api.OK},
		{"ooooo", 4, bad('z'), []int{0, 2}, "oooox", api.OK},
		{"vvoov", 4, bad('z'), []int{0, 2}, "", api.ErrContradiction},
		{"vvoov", 3, bad('q'), []int{0, 4, 3}, "", api.ErrContradiction},
		{"vvvoo", 3, verdictOf(api.VerdictSyncing, '.'), nil, "vvvoo", api.OK},
		{"vvvoo", 3, verdictOf(api.VerdictTimeout, '.'), nil, "vvvoo", api.OK},
		{"vvvoo", 3, verdictOf(api.VerdictNone, '.'), nil, "", api.ErrForm},
	} {
		all := tree(shape, ".qpppppp", c.statuses+"ooo").Nodes
		x, before := api.Tree{Nodes: all[:5]}, slices.Clone(all)
		kept := append(slices.Clone(c.keep), 6, 7)
		c.keep = kept[:len(c.keep)]
		first, second := checkJudge(t, x, c), checkJudge(t, x, c)
		want := slices.Clone(second.Nodes)
		clear(first.Nodes[:cap(first.Nodes)])
		_ = append(second.Nodes, first.Nodes...)
		if !slices.Equal(all, before) || !slices.Equal(second.Nodes, want) || !slices.Equal(kept[len(c.keep):], []int{6, 7}) {
			t.Errorf("%+v: the tree became %v, the other result %v, keep %d", c, all, second, kept)
		}
		clear(all)
		clear(kept)
		if !slices.Equal(second.Nodes, want) {
			t.Errorf("%+v: the result became %v", c, second)
		}
	}
}
