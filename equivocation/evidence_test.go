package equivocation

import (
	"math"
	"math/rand"
	"slices"
	"testing"

	"forkhead/api"
)

// most is the greatest number.
const most = math.MaxUint64

var (
	zero api.Root
	a    = api.Root{1}
	b    = api.Root{2}
	c    = api.Root{31: 1}
)

// claim returns a claim of these validators.
func claim(source, target uint64, root api.Root, l ...int) api.Claim {
	return api.Claim{Source: source, Target: target, Root: root, Validators: l}
}

// slashing returns a slashing of these claims.
func slashing(first, second api.Claim) api.Slashing {
	return api.Slashing{First: first, Second: second}
}

// lists returns a slashing of two lists of validators whose claims are a double vote.
func lists(first, second []int) api.Slashing {
	return slashing(claim(1, 5, a, first...), claim(1, 5, b, second...))
}

// checkSlashable checks whether two claims are slashable, in both orders and whatever their lists are.
func checkSlashable(t *testing.T, x, y api.Claim, want bool) {
	t.Helper()
	for _, l := range [][2][]int{{nil, nil}, {{0}, {0}}, {{0}, {1}}, {{0, 3}, {}}, {{-1, 9, 9}, {7, math.MaxInt, 7}}} {
		x.Validators, y.Validators = l[0], l[1]
		if got := Slashable(x, y); got != want {
			t.Fatalf("Slashable(%v, %v): got %v", x, y, got)
		}
		if got := Slashable(y, x); got != want {
			t.Fatalf("Slashable(%v, %v): got %v", y, x, got)
		}
	}
}

// P9.1: claims written out by hand, among them the examples of the chapter.
func TestSlashable(t *testing.T) {
	cases := []struct {
		x, y api.Claim
		want bool
	}{
		// Double votes.
		{claim(1, 5, a), claim(1, 5, b), true},
		{claim(1, 5, a), claim(2, 5, a), true},
		{claim(1, 5, a), claim(2, 5, b), true},
		{claim(5, 5, a), claim(5, 5, b), true},
		{claim(0, 0, zero), claim(0, 0, c), true},
		{claim(0, most, a), claim(most, most, a), true},
		{claim(1, 5, api.Root{31: 1}), claim(1, 5, api.Root{31: 2}), true},
		{claim(0, 1<<63, a), claim(1<<63, 1<<63, a), true},
		{claim(5, 1, a), claim(5, 1, b), true},

		// A claim surrounds another one, for the same root or not.
		{claim(1, 5, a), claim(2, 4, a), true},
		{claim(1, 5, a), claim(2, 4, b), true},
		{claim(1, 5, a), claim(3, 3, a), true},
		{claim(0, most, a), claim(1, most-1, a), true},
		{claim(1<<63-1, 1<<63+1, a), claim(1<<63, 1<<63, a), true},
		{claim(1, 1<<63, a), claim(2, 1<<63-1, a), true},
		{claim(1, 1<<32, a), claim(2, 3, a), true},
		{claim(1, 9, a), claim(5, 3, a), true},

		// The same claim twice.
		{claim(0, 0, zero), claim(0, 0, zero), false},
		{claim(1, 5, a), claim(1, 5, a), false},
		{claim(5, 1, a), claim(5, 1, a), false},
		{claim(most, most, c), claim(most, most, c), false},

		// Neither the same Target nor one within the other.
		{claim(1, 4, a), claim(2, 5, a), false},
		{claim(1, 4, a), claim(2, 5, b), false},
		{claim(1, 4, a), claim(1, 5, a), false},
		{claim(1, 4, a), claim(1, 5, b), false},
		{claim(1, 2, a), claim(3, 4, b), false},
		{claim(1, 2, a), claim(2, 3, b), false},
		{claim(1, 1, a), claim(1, 2, b), false},
		{claim(0, most-1, a), claim(0, most, b), false},
		{claim(0, 1<<63-1, a), claim(1, 1<<63, a), false},
		{claim(0, 1, a), claim(1<<63, most, a), false},
	}
	for _, c := range cases {
		checkSlashable(t, c.x, c.y, c.want)
	}
}

// P9.1: roots of a double vote may differ in any single byte.
func TestRootsOfDoubleVotes(t *testing.T) {
	for i := range len(zero) {
		root := a
		root[i] ^= 0x80
		checkSlashable(t, claim(1, 5, a), claim(1, 5, root), true)
		checkSlashable(t, claim(1, 4, a), claim(1, 5, root), false)
	}
}

// isWithin reports whether x leaves at least one epoch free on both sides of y.
func isWithin(x, y api.Claim) bool {
	return x.Source+1 <= y.Source && y.Target+1 <= x.Target
}

// P9.1: all claims of few epochs and roots, also those whose Source is above their Target.
func TestAllSmallClaims(t *testing.T) {
	all := []api.Claim{}
	for source := range uint64(4) {
		for target := range uint64(4) {
			all = append(all, claim(source, target, a), claim(source, target, b))
		}
	}
	for i, x := range all {
		for k, y := range all {
			// No claim is in the list twice, so any two of them differ in Source or Root if not in Target.
			isDoubleVote := i != k && x.Target == y.Target
			checkSlashable(t, x, y, isDoubleVote || isWithin(x, y) || isWithin(y, x))
		}
	}
}

// P9.2: slashings with one fault or none.
func TestValidate(t *testing.T) {
	cases := []struct {
		x api.Slashing
		e api.Errno
	}{
		{lists([]int{0}, []int{0}), api.OK},
		{lists([]int{3}, []int{3}), api.OK},
		{lists([]int{0, 1, 2, 3}, []int{0, 1, 2, 3}), api.OK},
		{lists([]int{0, 3}, []int{1, 3}), api.OK},
		{lists([]int{0, 1, 2}, []int{0, 3}), api.OK},
		{slashing(claim(1, 5, a, 0), claim(2, 4, a, 0)), api.OK},
		{slashing(claim(2, 4, a, 0), claim(1, 5, a, 0)), api.OK},
		{slashing(claim(5, 5, a, 0), claim(5, 5, b, 0)), api.OK},
		{slashing(claim(0, 0, zero, 0), claim(0, 0, c, 0)), api.OK},
		{slashing(claim(0, most, a, 0), claim(most, most, a, 0)), api.OK},
		{slashing(claim(0, most, a, 0), claim(most-1, most-1, a, 0)), api.OK},

		{lists(nil, []int{0}), api.ErrForm},
		{lists([]int{0}, []int{}), api.ErrForm},
		{lists([]int{4}, []int{0}), api.ErrRange},
		{lists([]int{0}, []int{4}), api.ErrRange},
		{lists([]int{-1}, []int{0}), api.ErrRange},
		{lists([]int{0}, []int{0, 1, 2, 3, 4}), api.ErrRange},
		{lists([]int{0}, []int{math.MaxInt}), api.ErrRange},
		{lists([]int{math.MinInt, 0}, []int{0}), api.ErrRange},
		{lists([]int{0, 0}, []int{0}), api.ErrOrder},
		{lists([]int{1, 0}, []int{0}), api.ErrOrder},
		{lists([]int{0}, []int{0, 3, 2}), api.ErrOrder},
		{lists([]int{0}, []int{0, 0}), api.ErrOrder},

		{slashing(claim(6, 5, a, 0), claim(5, 5, a, 0)), api.ErrForm},
		{slashing(claim(5, 5, a, 0), claim(6, 5, a, 0)), api.ErrForm},
		{slashing(claim(6, 5, a, 0), claim(6, 5, b, 0)), api.ErrForm},
		{slashing(claim(most, 0, a, 0), claim(0, 0, a, 0)), api.ErrForm},
		{slashing(claim(1, 9, a, 0), claim(5, 3, a, 0)), api.ErrForm},
		{slashing(claim(5, 3, a, 0), claim(1, 9, a, 0)), api.ErrForm},

		{lists([]int{0}, []int{1}), api.ErrEvidence},
		{lists([]int{0, 2}, []int{1, 3}), api.ErrEvidence},
		{lists([]int{0, 1}, []int{2, 3}), api.ErrEvidence},
		{lists([]int{2, 3}, []int{0, 1}), api.ErrEvidence},
		{slashing(claim(1, 5, a, 0), claim(1, 5, a, 0)), api.ErrEvidence},
		{slashing(claim(1, 4, a, 0), claim(2, 5, b, 0)), api.ErrEvidence},
		{slashing(claim(1, 4, a, 0), claim(1, 5, b, 0)), api.ErrEvidence},
		{slashing(claim(1, 2, a, 0), claim(3, 4, b, 0)), api.ErrEvidence},
		{slashing(claim(1, 5, a, 0), claim(1, 5, a, 1)), api.ErrEvidence},
	}
	for _, c := range cases {
		if e := Validate(c.x, 4); e != c.e {
			t.Errorf("Validate(%v, 4): got %d, want %d", c.x, e, c.e)
		}
	}
}

// P9.2, R6: where several errors apply, the first one in the order of the chapter counts.
func TestOrderOfErrors(t *testing.T) {
	faulty := []struct {
		l []int
		e api.Errno
	}{
		{nil, api.ErrForm}, {[]int{4}, api.ErrRange}, {[]int{1, 1}, api.ErrOrder}, {[]int{2, 1, 9}, api.ErrOrder},
		{[]int{2, 9, 1}, api.ErrRange},
	}
	check := func(x api.Slashing, want api.Errno) {
		if e := Validate(x, 4); e != want {
			t.Errorf("Validate(%v, 4): got %d, want %d", x, e, want)
		}
	}
	// The lists count before the epochs, and the list of First before that of Second.
	epochs := [][4]uint64{{1, 5, 2, 4}, {6, 5, 2, 4}, {1, 5, 6, 4}, {6, 5, 6, 4}, {1, 5, 1, 5}, {1, 4, 2, 5}}
	for _, s := range epochs {
		x := slashing(claim(s[0], s[1], a), claim(s[2], s[3], a))
		for _, one := range faulty {
			for _, other := range faulty {
				x.First.Validators, x.Second.Validators = one.l, other.l
				check(x, one.e)
			}
			for _, l := range [][]int{{0}, {1}, {0, 1, 2, 3}} {
				x.First.Validators, x.Second.Validators = one.l, l
				check(x, one.e)
				x.First.Validators, x.Second.Validators = l, one.l
				check(x, one.e)
			}
		}
	}
	// A Source above its Target counts before claims that are not slashable and before lists without a common validator.
	for _, x := range []api.Slashing{
		slashing(claim(6, 5, a, 0), claim(6, 5, a, 0)),
		slashing(claim(6, 5, a, 0), claim(7, 8, a, 0)),
		slashing(claim(7, 8, a, 0), claim(6, 5, a, 0)),
		slashing(claim(6, 5, a, 0), claim(1, 5, a, 1)),
		slashing(claim(1, 5, a, 0), claim(6, 5, a, 1)),
		slashing(claim(9, 1, a, 2, 3), claim(9, 1, a, 0, 1)),
	} {
		check(x, api.ErrForm)
	}
}

// P9.2: the number of validators may be any int.
func TestNumbersOfValidators(t *testing.T) {
	last := api.MaxValidators - 1
	cases := []struct {
		l          []int
		validators int
		e          api.Errno
	}{
		{[]int{0}, 1, api.OK},
		{[]int{0}, 0, api.ErrRange},
		{[]int{0}, -1, api.ErrRange},
		{[]int{0}, math.MinInt, api.ErrRange},
		{[]int{-1}, math.MinInt, api.ErrRange},
		{[]int{0}, math.MaxInt, api.OK},
		{nil, math.MaxInt, api.ErrForm},
		{nil, 0, api.ErrForm},
		{nil, -1, api.ErrForm},
		{[]int{last}, api.MaxValidators, api.OK},
		{[]int{last}, last, api.ErrRange},
		{[]int{last + 1}, api.MaxValidators, api.ErrRange},
		{[]int{last + 1}, api.MaxValidators + 1, api.OK},
		{[]int{math.MaxInt - 1}, math.MaxInt, api.OK},
		{[]int{math.MaxInt}, math.MaxInt, api.ErrRange},
	}
	for _, c := range cases {
		if e := Validate(lists(c.l, c.l), c.validators); e != c.e {
			t.Errorf("%d of %d validators: got %d, want %d", c.l, c.validators, e, c.e)
		}
	}
}

// checkCulprits checks the culprits of two lists, in both orders, for claims that are slashable and for others.
func checkCulprits(t *testing.T, first, second, want []int) {
	t.Helper()
	for _, x := range []api.Slashing{
		lists(first, second), lists(second, first),
		slashing(claim(0, 0, zero, first...), claim(0, 0, zero, second...)),
		slashing(claim(9, 1, a, second...), claim(2, 3, b, first...)),
	} {
		if got := Culprits(x); !slices.Equal(got, want) {
			t.Fatalf("Culprits(%v): got %d, want %d", x, got, want)
		}
	}
}

// P9.2: culprits of lists of every kind, also of those that Validate refuses.
func TestCulprits(t *testing.T) {
	cases := []struct{ first, second, want []int }{
		{nil, nil, nil},
		{nil, []int{0, 1}, nil},
		{[]int{0}, []int{0}, []int{0}},
		{[]int{0}, []int{1}, nil},
		{[]int{0, 1, 2}, []int{0, 1, 2}, []int{0, 1, 2}},
		{[]int{0, 1, 2, 3}, []int{1, 3, 5}, []int{1, 3}},
		{[]int{0, 2, 4}, []int{1, 3, 5}, nil},
		{[]int{0, 1, 9}, []int{9}, []int{9}},
		{[]int{0, 1, 9}, []int{0}, []int{0}},
		{[]int{0, 1, 2}, []int{3, 4, 5}, nil},

		{[]int{3, 2, 1}, []int{1, 2, 3}, []int{1, 2, 3}},
		{[]int{3, 1, 2}, []int{2, 3, 1}, []int{1, 2, 3}},
		{[]int{5, 1, 5, 2}, []int{2, 7, 5}, []int{2, 5}},
		{[]int{4, 4, 4}, []int{4, 4}, []int{4}},
		{[]int{4, 4, 4}, []int{5, 5}, nil},
		{[]int{1, 2, 1, 2}, []int{2, 1, 2, 1}, []int{1, 2}},
		{[]int{10, 9, 2}, []int{2, 10}, []int{2, 10}},

		{[]int{-1, 0, 1}, []int{1, -1}, []int{-1, 1}},
		{[]int{-1, -3, -2}, []int{-2, -3, -4}, []int{-3, -2}},
		{[]int{1, 2}, []int{-1, -2}, nil},
		{[]int{math.MaxInt, 0, math.MinInt}, []int{math.MinInt, math.MaxInt}, []int{math.MinInt, math.MaxInt}},
		{[]int{math.MaxInt}, []int{math.MinInt}, nil},
		{[]int{1 << 32, 1}, []int{1 << 33, 0}, nil},
		{[]int{1 << 32, 1}, []int{1, 1 << 32, 0}, []int{1, 1 << 32}},
		{[]int{api.MaxValidators, api.MaxValidators + 1}, []int{api.MaxValidators + 1}, []int{api.MaxValidators + 1}},
	}
	for _, c := range cases {
		checkCulprits(t, c.first, c.second, c.want)
	}
}

// P9.2: random lists, compared with a search for each number.
func TestCulpritsOfRandomLists(t *testing.T) {
	random := rand.New(rand.NewSource(1))
	list := func() []int {
		l := make([]int, random.Intn(12))
		for i := range l {
			l[i] = random.Intn(16) - 4
		}
		return l
	}
	for range 2000 {
		first, second, want := list(), list(), []int{}
		for i := -4; i < 12; i++ {
			if slices.Contains(first, i) && slices.Contains(second, i) {
				want = append(want, i)
			}
		}
		checkCulprits(t, first, second, want)
	}
}

// P9.2, R1: lists that are longer than any that can be encoded.
func TestCulpritsOfLongLists(t *testing.T) {
	const n = 300000
	first, second, want := make([]int, n), make([]int, n), []int{}
	for i := range n {
		first[i], second[i] = 2*(n-i), 3*i
	}
	for i := 6; i <= 2*n; i += 6 {
		want = append(want, i)
	}
	checkCulprits(t, first, second, want)
}

// R2: the lists of a slashing stay as they are, with their spare capacity.
func TestTheListsStayAsTheyAre(t *testing.T) {
	before := [2][]int{{5, 1, 5, 2, 9, 8}, {2, 7, 5, 2, 3, 1}}
	whole := [2][]int{slices.Clone(before[0]), slices.Clone(before[1])}
	for n := range len(before[0]) + 1 {
		x := lists(whole[0][:n], whole[1][:n])
		_ = append(Culprits(x), 77, 77)
		Validate(x, 10)
		Slashable(x.First, x.Second)
		for i := range whole {
			if !slices.Equal(whole[i], before[i]) {
				t.Fatalf("list %d became %d", i, whole[i])
			}
		}
	}
}

// R2: what Culprits returns shares memory neither with a list nor with another result.
func TestCulpritsAreNewMemory(t *testing.T) {
	l := []int{1, 2, 3}
	x := lists(l, l)
	first, second := Culprits(x), Culprits(x)
	clear(first)
	_ = append(first[:1], 7, 7)
	if !slices.Equal(second, []int{1, 2, 3}) || !slices.Equal(l, []int{1, 2, 3}) {
		t.Errorf("another result became %d, the list %d", second, l)
	}
	clear(l)
	if !slices.Equal(second, []int{1, 2, 3}) {
		t.Errorf("with the list a result became %d", second)
	}
}
