package votes

import (
	"math"
	"math/rand"
	"slices"
	"testing"

	"forkhead/api"
)

// most is the greatest number.
const most = math.MaxUint64

var (
	zero api.Root
	a    = api.Root{1}
	b    = api.Root{2}
	c    = api.Root{31: 1}
)

// vote returns the vote for root at epoch.
func vote(epoch uint64, root api.Root) api.Vote {
	return api.Vote{Has: true, Epoch: epoch, Root: root}
}

// numbers returns the numbers from 0 to n - 1.
func numbers(n int) []int {
	l := make([]int, n)
	for i := range l {
		l[i] = i
	}
	return l
}

// tableOf returns a table without votes.
func tableOf(t *testing.T, validators int) *Table {
	t.Helper()
	x, e := NewTable(validators)
	if x == nil || e != api.OK {
		t.Fatalf("NewTable(%d): got %v, %d", validators, x, e)
	}
	return x
}

// cast casts votes and checks how many change.
func cast(t *testing.T, x *Table, changed int, epoch uint64, root api.Root, validators ...int) {
	t.Helper()
	if n, e := x.Cast(epoch, root, validators...); n != changed || e != api.OK {
		t.Fatalf("Cast(%d, %x, %d): got %d, %d, want %d", epoch, root, validators, n, e, changed)
	}
}

// supporters returns the places of the votes for root.
func supporters(l []api.Vote, root api.Root) []int {
	places := []int{}
	for i, v := range l {
		if v == vote(v.Epoch, root) {
			places = append(places, i)
		}
	}
	return places
}

// checkTable checks that these are the votes of the table, by each of its methods.
func checkTable(t *testing.T, x *Table, want ...api.Vote) {
	t.Helper()
	if got := x.Votes(); !slices.Equal(got, want) {
		t.Fatalf("Votes: got %v, want %v", got, want)
	}
	for i, v := range want {
		if got := x.Vote(i); got != v {
			t.Fatalf("Vote(%d): got %v, want %v", i, got, v)
		}
	}
	for _, i := range []int{math.MinInt, -1, len(want), len(want) + 1, 1 << 32, math.MaxInt} {
		if got := x.Vote(i); got != (api.Vote{}) {
			t.Fatalf("Vote(%d): got %v", i, got)
		}
	}
	for _, root := range []api.Root{zero, a, b, c, {9}} {
		if got, want := x.Supporters(root), supporters(want, root); !slices.Equal(got, want) {
			t.Fatalf("Supporters(%x): got %d, want %d", root, got, want)
		}
	}
}

// checkRefused checks that the table refuses a list of validators and stays as it is.
func checkRefused(t *testing.T, x *Table, e api.Errno, epoch uint64, validators ...int) {
	t.Helper()
	before := x.Votes()
	if n, got := x.Cast(epoch, c, validators...); n != 0 || got != e {
		t.Fatalf("Cast(%d, %x, %d): got %d, %d, want %d", epoch, c, validators, n, got, e)
	}
	checkTable(t, x, before...)
}

// P8.1: a new table has a place for each validator, and no votes.
func TestNewTable(t *testing.T) {
	for _, n := range []int{0, 1, 2, 1000, api.MaxValidators - 1, api.MaxValidators} {
		x := tableOf(t, n)
		checkTable(t, x, make([]api.Vote, n)...)
		checkRefused(t, x, api.ErrRange, 1, n)
		if n > 0 {
			cast(t, x, 1, 1, a, n-1)
			checkTable(t, x, append(make([]api.Vote, n-1), vote(1, a))...)
		}
	}
	for _, n := range []int{-1, math.MinInt, api.MaxValidators + 1, 1 << 32, math.MaxInt} {
		if x, e := NewTable(n); x != nil || e != api.ErrRange {
			t.Errorf("NewTable(%d): got %v, %d", n, x, e)
		}
	}
}

// P8.1, R3: a vote in one table does not show in another one.
func TestTablesAreSeparate(t *testing.T) {
	first, second := tableOf(t, 2), tableOf(t, 2)
	cast(t, first, 2, 3, a, 0, 1)
	checkTable(t, second, make([]api.Vote, 2)...)
	cast(t, second, 1, 4, b, 1)
	checkTable(t, first, vote(3, a), vote(3, a))
}

// P8.2: the example of the chapter.
func TestLaterVotesOfOneEpochDoNotCount(t *testing.T) {
	x := tableOf(t, 4)
	cast(t, x, 2, 3, a, 0, 1)
	checkTable(t, x, vote(3, a), vote(3, a), api.Vote{}, api.Vote{})
	cast(t, x, 1, 3, b, 1, 2)
	checkTable(t, x, vote(3, a), vote(3, a), vote(3, b), api.Vote{})
}

// P8.2: a vote gives way to those at greater epochs alone, whatever they are for.
func TestEpochsOfVotes(t *testing.T) {
	cases := []struct {
		before, epoch uint64
		changed       int
	}{
		{0, 0, 0}, {0, 1, 1}, {0, most, 1}, {1, 0, 0}, {1, 1, 0}, {1, 2, 1}, {5, 3, 0}, {5, 4, 0}, {5, 5, 0}, {5, 6, 1},
		{255, 256, 1}, {256, 255, 0}, {1<<32 - 1, 1 << 32, 1}, {1 << 32, 1, 0},
		{1<<63 - 1, 1 << 63, 1}, {1 << 63, 1<<63 - 1, 0}, {1 << 63, 1 << 63, 0}, {1 << 63, 0, 0}, {1, 1 << 63, 1},
		{most, 0, 0}, {most, 1, 0}, {most, most - 1, 0}, {most, most, 0}, {most - 1, most, 1},
	}
	for _, c := range cases {
		for _, roots := range [][2]api.Root{{a, b}, {b, a}, {a, a}, {zero, a}, {a, zero}, {zero, zero}} {
			x := tableOf(t, 1)
			cast(t, x, 1, c.before, roots[0], 0)
			cast(t, x, c.changed, c.epoch, roots[1], 0)
			want := vote(c.before, roots[0])
			if c.changed == 1 {
				want = vote(c.epoch, roots[1])
			}
			checkTable(t, x, want)
			// The same call once more finds its own vote or a later one.
			cast(t, x, 0, c.epoch, roots[1], 0)
			checkTable(t, x, want)
		}
	}
}

// P8.2: the first vote of a validator counts at every epoch, for every root.
func TestFirstVotes(t *testing.T) {
	for _, epoch := range []uint64{0, 1, 1 << 63, most} {
		for _, root := range []api.Root{zero, a, c} {
			x := tableOf(t, 3)
			cast(t, x, 1, epoch, root, 1)
			checkTable(t, x, api.Vote{}, vote(epoch, root), api.Vote{})
			cast(t, x, 2, epoch, root, 0, 1, 2)
			checkTable(t, x, vote(epoch, root), vote(epoch, root), vote(epoch, root))
		}
	}
}

// P8.2: each validator of one call is decided by its own vote.
func TestCastOfSeveralValidators(t *testing.T) {
	x := tableOf(t, 6)
	cast(t, x, 1, 4, a, 0)
	cast(t, x, 2, 5, a, 2, 4)
	cast(t, x, 1, 6, a, 5)
	cast(t, x, 3, 5, b, 0, 1, 2, 3, 4, 5)
	checkTable(t, x, vote(5, b), vote(5, b), vote(5, a), vote(5, b), vote(5, a), vote(6, a))
	cast(t, x, 2, 6, c, 3, 4, 5)
	checkTable(t, x, vote(5, b), vote(5, b), vote(5, a), vote(6, c), vote(6, c), vote(6, a))
	cast(t, x, 0, 4, c, 0, 1, 2, 3, 4, 5)
	cast(t, x, 6, 7, zero, 0, 1, 2, 3, 4, 5)
	checkTable(t, x, slices.Repeat([]api.Vote{vote(7, zero)}, 6)...)
}

// P8.2: one call may name as many validators as there are.
func TestCastOfAllValidators(t *testing.T) {
	const n = api.MaxValidators
	x := tableOf(t, n)
	cast(t, x, n, most, b, numbers(n)...)
	cast(t, x, 0, most, a, numbers(n)...)
	checkTable(t, x, slices.Repeat([]api.Vote{vote(most, b)}, n)...)
	checkRefused(t, x, api.ErrRange, most, numbers(n+1)...)
}

// P8.2: the errors, also where several of them apply; not even the validators before the faulty one get a vote.
func TestErrorsOfCast(t *testing.T) {
	cases := []struct {
		l []int
		e api.Errno
	}{
		{nil, api.ErrForm},
		{[]int{}, api.ErrForm},

		{[]int{-1}, api.ErrRange},
		{[]int{4}, api.ErrRange},
		{[]int{5}, api.ErrRange},
		{[]int{math.MinInt}, api.ErrRange},
		{[]int{math.MaxInt}, api.ErrRange},
		{[]int{1 << 32}, api.ErrRange},
		{[]int{0, 4}, api.ErrRange},
		{[]int{0, 1, 2, 3, 4}, api.ErrRange},
		{[]int{2, -1}, api.ErrRange},
		{[]int{1, 4, 1}, api.ErrRange},
		{[]int{api.MaxValidators - 1}, api.ErrRange},

		{[]int{0, 0}, api.ErrOrder},
		{[]int{1, 0}, api.ErrOrder},
		{[]int{3, 2}, api.ErrOrder},
		{[]int{0, 1, 2, 2}, api.ErrOrder},
		{[]int{0, 1, 3, 2}, api.ErrOrder},
		{[]int{1, 1, 4}, api.ErrOrder},
		{[]int{2, 1, -1}, api.ErrOrder},
	}
	voted := tableOf(t, 4)
	cast(t, voted, 2, 3, a, 0, 2)
	for _, x := range []*Table{tableOf(t, 4), voted} {
		for _, c := range cases {
			for _, epoch := range []uint64{0, 3, 4, most} {
				checkRefused(t, x, c.e, epoch, c.l...)
			}
		}
	}
	cast(t, voted, 2, 3, b, 0, 1, 2, 3)
	checkTable(t, voted, vote(3, a), vote(3, b), vote(3, a), vote(3, b))
}

// P8.1, P8.2: a table for no validators has no votes and takes none.
func TestTableOfNobody(t *testing.T) {
	x := tableOf(t, 0)
	checkRefused(t, x, api.ErrForm, 1)
	for _, i := range []int{math.MinInt, -1, 0, 1, math.MaxInt} {
		checkRefused(t, x, api.ErrRange, 1, i)
	}
	checkRefused(t, x, api.ErrRange, 1, 0, 0)
	checkTable(t, x)
}

// P8.3: votes and supporters written out by hand; without a vote nobody supports the zero root.
func TestSupporters(t *testing.T) {
	x := tableOf(t, 7)
	cast(t, x, 2, 3, a, 1, 5)
	cast(t, x, 1, 9, a, 2)
	cast(t, x, 1, 0, zero, 4)
	cast(t, x, 1, most, c, 0)
	cases := []struct {
		root api.Root
		l    []int
	}{
		{a, []int{1, 2, 5}}, {zero, []int{4}}, {c, []int{0}}, {b, nil}, {api.Root{0: 1, 31: 1}, nil},
	}
	for _, c := range cases {
		if l := x.Supporters(c.root); !slices.Equal(l, c.l) {
			t.Errorf("Supporters(%x): got %d, want %d", c.root, l, c.l)
		}
	}
	checkTable(t, x, vote(most, c), vote(3, a), vote(9, a), api.Vote{}, vote(0, zero), vote(3, a), api.Vote{})
	cast(t, x, 2, 4, b, 1, 2, 5)
	for _, c := range []struct {
		root api.Root
		l    []int
	}{
		{a, []int{2}}, {b, []int{1, 5}},
	} {
		if l := x.Supporters(c.root); !slices.Equal(l, c.l) {
			t.Errorf("Supporters(%x) after other votes: got %d, want %d", c.root, l, c.l)
		}
	}
}

// P8.3: roots that differ in a single byte are different.
func TestRootsOfVotes(t *testing.T) {
	n := len(api.Root{})
	x := tableOf(t, n)
	for i := range n {
		root := api.Root{}
		root[i] = 1
		cast(t, x, 1, 1, root, i)
	}
	for i := range n {
		root := api.Root{}
		root[i] = 1
		if l := x.Supporters(root); !slices.Equal(l, []int{i}) {
			t.Errorf("Supporters(%x): got %d", root, l)
		}
		if v := x.Vote(i); v != vote(1, root) {
			t.Errorf("Vote(%d): got %v", i, v)
		}
	}
	if l := x.Supporters(zero); len(l) != 0 {
		t.Errorf("Supporters of the zero root: got %d", l)
	}
}

// P8.3: the supporters of a root may be all validators.
func TestAllSupportOneRoot(t *testing.T) {
	x := tableOf(t, api.MaxValidators)
	for i := api.MaxValidators - 1; i >= 0; i-- {
		cast(t, x, 1, uint64(i), a, i)
	}
	if l := x.Supporters(a); !slices.Equal(l, numbers(api.MaxValidators)) {
		t.Errorf("got %d", l)
	}
}

// pick returns some of the numbers from 0 to n - 1, in ascending order.
func pick(random *rand.Rand, n int) []int {
	l := random.Perm(n)[:1+random.Intn(n)]
	slices.Sort(l)
	return l
}

// P8.2, P8.3: in any sequence of calls the earliest one of the greatest epoch gives a validator its vote.
func TestTheEarliestOfTheLatest(t *testing.T) {
	random := rand.New(rand.NewSource(1))
	for _, n := range []int{1, 2, 9} {
		x := tableOf(t, n)
		heard := make([][]api.Vote, n)
		want := make([]api.Vote, n)
		for i := range 400 {
			v := vote(uint64(random.Intn(i/20+1)), []api.Root{zero, a, b, c}[random.Intn(4)])
			changed, l := 0, pick(random, n)
			for _, i := range l {
				heard[i] = append(heard[i], v)
				before := want[i]
				want[i] = slices.MaxFunc(heard[i], func(v, w api.Vote) int { return int(v.Epoch) - int(w.Epoch) })
				if want[i] != before {
					changed++
				}
			}
			cast(t, x, changed, v.Epoch, v.Root, l...)
			checkTable(t, x, want...)
		}
	}
}

// R2: a list of validators stays as it is, with its spare capacity, and is not kept.
func TestTheArgumentStaysAsItIs(t *testing.T) {
	before := []int{0, 2, 3, 1, 9}
	whole := slices.Clone(before)
	x := tableOf(t, 4)
	cast(t, x, 3, 3, a, whole[:3]...)
	cast(t, x, 0, 2, b, whole[:3]...)
	checkRefused(t, x, api.ErrOrder, 5, whole[:4]...)
	checkRefused(t, x, api.ErrRange, 5, whole[3:]...)
	x.Supporters(a)
	if !slices.Equal(whole, before) {
		t.Errorf("the argument became %d", whole)
	}
	clear(whole)
	checkTable(t, x, vote(3, a), api.Vote{}, vote(3, a), vote(3, a))
}

// R2: what Votes returns shares memory neither with the table nor with another result.
func TestVotesAreNewMemory(t *testing.T) {
	want := []api.Vote{vote(3, a), {}, vote(4, b)}
	x := tableOf(t, 3)
	cast(t, x, 1, 3, a, 0)
	cast(t, x, 1, 4, b, 2)
	first, second := x.Votes(), x.Votes()
	for i := range first {
		first[i] = vote(most, c)
	}
	_ = append(first[:1], vote(7, c), vote(7, c))
	if !slices.Equal(second, want) {
		t.Errorf("another result became %v", second)
	}
	checkTable(t, x, want...)
	// A result does not follow later votes either.
	cast(t, x, 3, 8, c, 0, 1, 2)
	if !slices.Equal(second, want) {
		t.Errorf("after other votes a result became %v", second)
	}
}

// R2: what Supporters returns shares memory neither with the table nor with another result.
func TestSupportersAreNewMemory(t *testing.T) {
	x := tableOf(t, 3)
	cast(t, x, 2, 3, a, 0, 2)
	first, second := x.Supporters(a), x.Supporters(a)
	first[0], first[1] = 7, 7
	_ = append(first[:1], 8)
	if !slices.Equal(second, []int{0, 2}) {
		t.Errorf("another result became %d", second)
	}
	checkTable(t, x, vote(3, a), api.Vote{}, vote(3, a))
	cast(t, x, 1, 4, b, 0)
	if !slices.Equal(second, []int{0, 2}) {
		t.Errorf("after other votes a result became %d", second)
	}
}
