package equivocation

import (
	"math"
	"math/rand"
	"slices"
	"testing"

	"forkhead/api"
)

// numbers returns the numbers from 0 to n - 1.
func numbers(n int) []int {
	l := make([]int, n)
	for i := range l {
		l[i] = i
	}
	return l
}

// setOf returns a set of these members.
func setOf(t *testing.T, validators int, l ...int) *Set {
	t.Helper()
	s, e := NewSet(validators)
	if s == nil || e != api.OK {
		t.Fatalf("NewSet(%d): got %v, %d", validators, s, e)
	}
	if len(l) > 0 {
		punish(t, s, len(l), l...)
	}
	return s
}

// punish adds validators and checks how many of them are new.
func punish(t *testing.T, s *Set, added int, l ...int) {
	t.Helper()
	if n, e := s.Punish(l...); n != added || e != api.OK {
		t.Fatalf("Punish(%d): got %d, %d, want %d", l, n, e, added)
	}
}

// checkSet checks that these are the members of a set for so many validators, by each of its methods.
func checkSet(t *testing.T, s *Set, validators int, want ...int) {
	t.Helper()
	if got := s.Members(); !slices.Equal(got, want) {
		t.Fatalf("Members: got %d, want %d", got, want)
	}
	for i := range validators {
		if got := s.Guilty(i); got != slices.Contains(want, i) {
			t.Fatalf("Guilty(%d): got %v", i, got)
		}
	}
	for _, i := range []int{math.MinInt, -1 << 32, -2, -1, validators, validators + 1, 1 << 32, math.MaxInt} {
		if s.Guilty(i) {
			t.Fatalf("Guilty(%d) of %d validators: got true", i, validators)
		}
	}
}

// checkRefused checks that the set refuses a list of validators and stays as it is.
func checkRefused(t *testing.T, s *Set, validators int, e api.Errno, l ...int) {
	t.Helper()
	before := s.Members()
	if n, got := s.Punish(l...); n != 0 || got != e {
		t.Fatalf("Punish(%d): got %d, %d, want %d", l, n, got, e)
	}
	checkSet(t, s, validators, before...)
}

// P9.3: a new set is empty and has a place for each validator.
func TestNewSet(t *testing.T) {
	for _, n := range []int{0, 1, 2, 1000, api.MaxValidators - 1, api.MaxValidators} {
		s := setOf(t, n)
		checkSet(t, s, n)
		checkRefused(t, s, n, api.ErrRange, n)
		if n > 0 {
			punish(t, s, 1, n-1)
			checkSet(t, s, n, n-1)
		}
	}
	for _, n := range []int{-1, math.MinInt, api.MaxValidators + 1, 1 << 32, math.MaxInt} {
		if s, e := NewSet(n); s != nil || e != api.ErrRange {
			t.Errorf("NewSet(%d): got %v, %d", n, s, e)
		}
	}
}

// P9.3, R3: the members of one set do not show in another one.
func TestSetsAreSeparate(t *testing.T) {
	first, second := setOf(t, 3, 0, 2), setOf(t, 3)
	checkSet(t, second, 3)
	punish(t, second, 2, 1, 2)
	checkSet(t, first, 3, 0, 2)
	checkSet(t, second, 3, 1, 2)
}

// P9.3: only the validators that were not in the set count, and none leaves it.
func TestPunish(t *testing.T) {
	s := setOf(t, 6)
	punish(t, s, 2, 1, 4)
	checkSet(t, s, 6, 1, 4)
	punish(t, s, 0, 1, 4)
	punish(t, s, 0, 4)
	checkSet(t, s, 6, 1, 4)
	punish(t, s, 1, 0, 1)
	checkSet(t, s, 6, 0, 1, 4)
	punish(t, s, 1, 1, 3, 4)
	checkSet(t, s, 6, 0, 1, 3, 4)
	punish(t, s, 2, 0, 1, 2, 3, 4, 5)
	checkSet(t, s, 6, 0, 1, 2, 3, 4, 5)
	punish(t, s, 0, 0, 1, 2, 3, 4, 5)
	punish(t, s, 0, 2)
	checkSet(t, s, 6, 0, 1, 2, 3, 4, 5)
}

// P9.3: one call may name as many validators as there are.
func TestPunishAll(t *testing.T) {
	const n = api.MaxValidators
	s := setOf(t, n, 0, n-1)
	checkRefused(t, s, n, api.ErrRange, numbers(n+1)...)
	punish(t, s, n-2, numbers(n)...)
	checkSet(t, s, n, numbers(n)...)
	punish(t, s, 0, numbers(n)...)
	checkSet(t, s, n, numbers(n)...)
}

// P9.3: the errors, also where several of them apply; not even the validators before the faulty one are added.
func TestErrorsOfPunish(t *testing.T) {
	cases := []struct {
		l []int
		e api.Errno
	}{
		{nil, api.ErrForm},
		{[]int{}, api.ErrForm},

		{[]int{-1}, api.ErrRange},
		{[]int{4}, api.ErrRange},
		{[]int{5}, api.ErrRange},
		{[]int{math.MinInt}, api.ErrRange},
		{[]int{math.MaxInt}, api.ErrRange},
		{[]int{1 << 32}, api.ErrRange},
		{[]int{0, 4}, api.ErrRange},
		{[]int{0, 1, 2, 3, 4}, api.ErrRange},
		{[]int{2, -1}, api.ErrRange},
		{[]int{1, 4, 1}, api.ErrRange},
		{[]int{api.MaxValidators - 1}, api.ErrRange},

		{[]int{0, 0}, api.ErrOrder},
		{[]int{1, 0}, api.ErrOrder},
		{[]int{3, 2}, api.ErrOrder},
		{[]int{0, 1, 2, 2}, api.ErrOrder},
		{[]int{0, 1, 3, 2}, api.ErrOrder},
		{[]int{1, 1, 4}, api.ErrOrder},
		{[]int{2, 1, -1}, api.ErrOrder},
	}
	for _, members := range [][]int{nil, {1}, {0, 3}, {0, 1, 2, 3}} {
		s := setOf(t, 4, members...)
		for _, c := range cases {
			checkRefused(t, s, 4, c.e, c.l...)
		}
		punish(t, s, 4-len(members), 0, 1, 2, 3)
	}
}

// P9.3: a set for no validators has no members and takes none.
func TestSetOfNobody(t *testing.T) {
	s := setOf(t, 0)
	checkRefused(t, s, 0, api.ErrForm)
	for _, i := range []int{math.MinInt, -1, 0, 1, math.MaxInt} {
		checkRefused(t, s, 0, api.ErrRange, i)
	}
	checkRefused(t, s, 0, api.ErrRange, 0, 0)
	checkSet(t, s, 0)
}

// P9.3: in any sequence of calls the members are all validators that have been named, in ascending order.
func TestTheUnionOfAllCalls(t *testing.T) {
	random := rand.New(rand.NewSource(2))
	for _, n := range []int{1, 2, 9, 300} {
		s := setOf(t, n)
		var want []int
		for range 40 {
			l := random.Perm(n)[:1+random.Intn(1+n/8)]
			slices.Sort(l)
			before := len(want)
			want = append(want, l...)
			slices.Sort(want)
			want = slices.Compact(want)
			punish(t, s, len(want)-before, l...)
			checkSet(t, s, n, want...)
		}
	}
}

// P9.3, P9.2: what Culprits returns for a slashing that Validate accepts can be punished.
func TestPunishCulprits(t *testing.T) {
	x := slashing(claim(1, 5, a, 0, 2, 3, 5), claim(2, 4, a, 1, 2, 5))
	if e := Validate(x, 6); e != api.OK {
		t.Fatal(e)
	}
	s := setOf(t, 6, 5)
	punish(t, s, 1, Culprits(x)...)
	checkSet(t, s, 6, 2, 5)
}

// R2: a list of validators stays as it is, with its spare capacity, and is not kept.
func TestTheArgumentStaysAsItIs(t *testing.T) {
	before := []int{0, 2, 3, 1, 9}
	whole := slices.Clone(before)
	s := setOf(t, 4)
	punish(t, s, 3, whole[:3]...)
	punish(t, s, 0, whole[:3]...)
	checkRefused(t, s, 4, api.ErrOrder, whole[:4]...)
	checkRefused(t, s, 4, api.ErrRange, whole[4:]...)
	if !slices.Equal(whole, before) {
		t.Errorf("the argument became %d", whole)
	}
	clear(whole)
	checkSet(t, s, 4, 0, 2, 3)
}

// R2: what Members returns shares memory neither with the set nor with another result.
func TestMembersAreNewMemory(t *testing.T) {
	s := setOf(t, 5, 1, 3)
	first, second := s.Members(), s.Members()
	first[0], first[1] = 7, 7
	_ = append(first[:1], 8)
	if !slices.Equal(second, []int{1, 3}) {
		t.Errorf("another result became %d", second)
	}
	checkSet(t, s, 5, 1, 3)
	// A result does not follow the set either.
	punish(t, s, 2, 0, 2)
	if !slices.Equal(second, []int{1, 3}) {
		t.Errorf("after another call a result became %d", second)
	}
	checkSet(t, s, 5, 0, 1, 2, 3)
}
