package registry

import (
	"fmt"
	"math"
	"math/rand"
	"slices"
	"testing"

	"forkhead/api"
	"forkhead/balances"
	"forkhead/equivocation"
	"forkhead/votes"
)

// most is the greatest number.
const most = math.MaxUint64

var (
	zero    api.Root
	a       = api.Root{1}
	b       = api.Root{2}
	c       = api.Root{31: 1}
	genesis = api.Root{9}
)

// start is the checkpoint of the first table.
var start = api.Checkpoint{Root: genesis}

// at returns a checkpoint.
func at(epoch uint64, root api.Root) api.Checkpoint {
	return api.Checkpoint{Epoch: epoch, Root: root}
}

// table returns a table of x with these balances.
func table(x api.Checkpoint, l ...uint64) api.Table {
	return api.Table{Checkpoint: x, Balances: l}
}

// vote returns the vote for root at epoch.
func vote(epoch uint64, root api.Root) api.Vote {
	return api.Vote{Has: true, Epoch: epoch, Root: root}
}

// numbers returns the numbers from 0 to n - 1.
func numbers(n int) []int {
	l := make([]int, n)
	for i := range l {
		l[i] = i
	}
	return l
}

// config returns a configuration for validators with these balances.
func config(limit int, l ...uint64) api.Config {
	return api.Config{Limits: api.Limits{TableLimit: limit}, Genesis: genesis, Balances: l}
}

// newRegistry returns what New returns for x, which New accepts.
func newRegistry(t *testing.T, x api.Config) *Registry {
	t.Helper()
	r, e := New(x)
	if r == nil || e != api.OK {
		t.Fatalf("New: got %v, %d", r, e)
	}
	return r
}

// cast casts votes and checks how many change.
func cast(t *testing.T, r *Registry, changed int, epoch uint64, root api.Root, l ...int) {
	t.Helper()
	if n, e := r.Cast(epoch, root, l...); n != changed || e != api.OK {
		t.Fatalf("Cast(%d, %x, %d): got %d, %d, want %d", epoch, root, l, n, e, changed)
	}
}

// punish adds members and checks how many are new.
func punish(t *testing.T, r *Registry, added int, l ...int) {
	t.Helper()
	if n, e := r.Punish(l...); n != added || e != api.OK {
		t.Fatalf("Punish(%d): got %d, %d, want %d", l, n, e, added)
	}
}

// register adds tables.
func register(t *testing.T, r *Registry, l ...api.Table) {
	t.Helper()
	for _, x := range l {
		if e := r.Register(x); e != api.OK {
			t.Fatalf("Register(%v): got %d", x, e)
		}
	}
}

// text shows a snapshot; nil and empty lists look alike.
func text(v api.Votes, l []api.Table) string {
	s := fmt.Sprintf("%v\n%d\n", v.Latest, v.Equivocating)
	for _, x := range l {
		s += fmt.Sprintf("%d %x %d\n", x.Epoch, x.Root, x.Balances)
	}
	return s
}

// weight is P10.2 for the registry with the snapshot v and l.
func weight(v api.Votes, l []api.Table, x api.Checkpoint, roots ...api.Root) uint64 {
	sum := uint64(0)
	for _, t := range l {
		for i, n := range t.Balances {
			isCounted := v.Latest[i].Has && slices.Contains(roots, v.Latest[i].Root) && !slices.Contains(v.Equivocating, i)
			if t.Checkpoint == x && isCounted {
				sum += n
			}
		}
	}
	return sum
}

// lists are some lists of roots.
var lists = [][]api.Root{
	nil, {}, {zero}, {a}, {b}, {c}, {genesis}, {a, a}, {b, a}, {a, b, a, b}, {zero, zero}, {a, b, c, zero, genesis, c, a},
}

// checkRegistry checks that a registry has these votes, members and tables, by each of its methods.
func checkRegistry(t *testing.T, r *Registry, v api.Votes, l []api.Table) {
	t.Helper()
	if w, m := r.Snapshot(); text(w, m) != text(v, l) {
		t.Fatalf("Snapshot: got\n%swant\n%s", text(w, m), text(v, l))
	}
	if w, m := (api.Votes{Latest: r.Votes(), Equivocating: r.Members()}), r.Tables(); text(w, m) != text(v, l) {
		t.Fatalf("Votes, Members, Tables: got\n%swant\n%s", text(w, m), text(v, l))
	}
	for i := -1; i <= len(v.Latest); i++ {
		want := api.Vote{}
		if i >= 0 && i < len(v.Latest) {
			want = v.Latest[i]
		}
		if r.Vote(i) != want || r.Guilty(i) != slices.Contains(v.Equivocating, i) {
			t.Fatalf("validator %d: got %v, %v", i, r.Vote(i), r.Guilty(i))
		}
	}
	for _, x := range append(checkpointsOf(l), at(0, zero), start, at(7, a), at(most, b)) {
		for _, roots := range lists {
			if got, want := r.Weight(x, roots...), weight(v, l, x, roots...); got != want {
				t.Fatalf("Weight(%v, %x): got %d, want %d", x, roots, got, want)
			}
		}
		if got, want := r.Known(x), slices.Contains(checkpointsOf(l), x); got != want {
			t.Fatalf("Known(%v): got %v", x, got)
		}
	}
}

// checkpointsOf returns the checkpoints of tables.
func checkpointsOf(l []api.Table) []api.Checkpoint {
	checkpoints := []api.Checkpoint{}
	for _, t := range l {
		checkpoints = append(checkpoints, t.Checkpoint)
	}
	return checkpoints
}

// P10.1: the parts of a registry are embedded pointers, and what they do shows in it.
func TestParts(t *testing.T) {
	r := newRegistry(t, config(2, 5, 7))
	var (
		latest *votes.Table      = r.Table
		guilty *equivocation.Set = r.Set
		book   *balances.Book    = r.Book
	)
	if n, e := latest.Cast(3, a, 0, 1); n != 2 || e != api.OK {
		t.Fatalf("Cast: got %d, %d", n, e)
	}
	if n, e := guilty.Punish(1); n != 1 || e != api.OK {
		t.Fatalf("Punish: got %d, %d", n, e)
	}
	if e := book.Register(table(at(1, b), 11, 13)); e != api.OK {
		t.Fatalf("Register: got %d", e)
	}
	v := api.Votes{Latest: []api.Vote{vote(3, a), vote(3, a)}, Equivocating: []int{1}}
	checkRegistry(t, r, v, []api.Table{table(start, 5, 7), table(at(1, b), 11, 13)})
	if l := r.Supporters(a); !slices.Equal(l, []int{0, 1}) {
		t.Errorf("Supporters: got %d", l)
	}
	if n := r.Weight(at(1, b), a); n != 11 {
		t.Errorf("Weight: got %d", n)
	}
}

// P10.1: a new registry has no votes, no members and one table; it is for as many validators as there are balances, and
// has the limit of the configuration.
func TestNew(t *testing.T) {
	for _, n := range []int{0, 1, 2, api.MaxValidators - 1, api.MaxValidators} {
		for _, limit := range []int{1, 2, api.MaxTables - 1, api.MaxTables} {
			l := make([]uint64, n)
			for i := range l {
				l[i] = uint64(3*i + 1)
			}
			r := newRegistry(t, config(limit, l...))
			checkRegistry(t, r, api.Votes{Latest: make([]api.Vote, n)}, []api.Table{table(start, l...)})
			checkValidators(t, r, n)
			if e := r.Register(table(start, l...)); e != api.ErrDuplicate {
				t.Fatalf("the first table once more: got %d", e)
			}
			for i := 1; i < limit; i++ {
				register(t, r, table(at(uint64(i), a), l...))
			}
			if e := r.Register(table(at(most, a), l...)); e != api.ErrFull {
				t.Fatalf("table %d of %d: got %d", limit+1, limit, e)
			}
		}
	}
}

// checkValidators checks that each part of a registry is for n validators.
func checkValidators(t *testing.T, r *Registry, n int) {
	t.Helper()
	if _, e := r.Cast(1, a, n); e != api.ErrRange {
		t.Fatalf("Cast for validator %d: got %d", n, e)
	}
	if _, e := r.Punish(n); e != api.ErrRange {
		t.Fatalf("Punish(%d): got %d", n, e)
	}
	if e := r.Register(table(at(most, c), make([]uint64, n+1)...)); e != api.ErrForm {
		t.Fatalf("a table of %d balances: got %d", n+1, e)
	}
	if n > 0 {
		cast(t, r, 1, 1, a, n-1)
		punish(t, r, 1, n-1)
	}
}

// P10.1: the checkpoint of the first table is {0, Genesis}, for every Genesis.
func TestGenesis(t *testing.T) {
	for _, root := range []api.Root{zero, a, c, genesis} {
		x := config(1, 5)
		x.Genesis = root
		r := newRegistry(t, x)
		checkRegistry(t, r, api.Votes{Latest: make([]api.Vote, 1)}, []api.Table{table(at(0, root), 5)})
	}
}

// P10.1: the other parts of a configuration do not matter.
func TestOtherPartsOfTheConfiguration(t *testing.T) {
	for _, l := range []api.Limits{
		{TableLimit: 1},
		{TableLimit: 1, NodeLimit: -1, OrphanLimit: math.MinInt, EarlyLimit: -1, RetryLimit: -1},
		{TableLimit: 1, NodeLimit: math.MaxInt, OrphanLimit: 65, EarlyLimit: math.MaxInt, RetryLimit: 257, Backoff: most},
	} {
		for _, n := range []uint64{0, 1, 101, most} {
			x := api.Config{Limits: l, SlotsPerEpoch: n, BoostPercent: n, TTD: api.Wide{n, n, n, n}, Genesis: genesis, Balances: []uint64{5}}
			v := api.Votes{Latest: make([]api.Vote, 1)}
			checkRegistry(t, newRegistry(t, x), v, []api.Table{table(start, 5)})
			r, e := Restore(x, v, nil)
			if e != api.OK {
				t.Fatalf("Restore: got %d", e)
			}
			checkRegistry(t, r, v, nil)
		}
	}
}

// P10.1, R4, R6: the errors, also where several of them apply.
func TestErrorsOfNew(t *testing.T) {
	cases := []struct {
		limit int
		l     []uint64
		e     api.Errno
	}{
		{0, nil, api.ErrRange},
		{0, []uint64{5, 7}, api.ErrRange},
		{-1, []uint64{5, 7}, api.ErrRange},
		{math.MinInt, []uint64{5, 7}, api.ErrRange},
		{api.MaxTables + 1, []uint64{5, 7}, api.ErrRange},
		{1<<32 + 1, []uint64{5, 7}, api.ErrRange},
		{math.MaxInt, []uint64{5, 7}, api.ErrRange},
		{1, make([]uint64, api.MaxValidators+1), api.ErrRange},
		{api.MaxTables, make([]uint64, 2*api.MaxValidators), api.ErrRange},
		{0, make([]uint64, api.MaxValidators+1), api.ErrRange},

		{0, []uint64{most}, api.ErrRange},
		{api.MaxTables + 1, []uint64{1 << 62, 1}, api.ErrRange},
		{1, slices.Repeat([]uint64{most}, api.MaxValidators+1), api.ErrRange},

		{1, []uint64{api.MaxTotal + 1}, api.ErrOverflow},
		{1, []uint64{most}, api.ErrOverflow},
		{2, []uint64{api.MaxTotal, 1}, api.ErrOverflow},
		{2, []uint64{1, api.MaxTotal}, api.ErrOverflow},
		{2, []uint64{most, 1}, api.ErrOverflow},
		{2, []uint64{1 << 63, 1 << 63}, api.ErrOverflow},
		{api.MaxTables, slices.Repeat([]uint64{most}, api.MaxValidators), api.ErrOverflow},

		{1, []uint64{api.MaxTotal}, api.OK},
		{1, []uint64{api.MaxTotal - 1, 1}, api.OK},
		{1, []uint64{0, 0}, api.OK},
		{1, nil, api.OK},
		{api.MaxTables, make([]uint64, api.MaxValidators), api.OK},
	}
	for _, x := range cases {
		if r, e := New(config(x.limit, x.l...)); e != x.e || (r == nil) != (e != api.OK) {
			t.Errorf("New(%d balances, limit %d): got %v, %d, want %d", len(x.l), x.limit, r, e, x.e)
		}
	}
}

// P10.1, R3: what one registry is given does not show in another one.
func TestRegistriesAreSeparate(t *testing.T) {
	x := config(3, 5, 7)
	first, second := newRegistry(t, x), newRegistry(t, x)
	cast(t, first, 2, 3, a, 0, 1)
	punish(t, first, 1, 0)
	register(t, first, table(at(1, a), 1, 2))
	checkRegistry(t, second, api.Votes{Latest: make([]api.Vote, 2)}, []api.Table{table(start, 5, 7)})
	if n := second.Drop(1); n != 1 {
		t.Errorf("Drop: got %d", n)
	}
	v := api.Votes{Latest: []api.Vote{vote(3, a), vote(3, a)}, Equivocating: []int{0}}
	checkRegistry(t, first, v, []api.Table{table(start, 5, 7), table(at(1, a), 1, 2)})
}

// checkWeight checks a weight, twice.
func checkWeight(t *testing.T, r *Registry, want uint64, x api.Checkpoint, roots ...api.Root) {
	t.Helper()
	for range 2 {
		if n := r.Weight(x, roots...); n != want {
			t.Fatalf("Weight(%v, %x): got %d, want %d", x, roots, n, want)
		}
	}
}

// P10.2: the example of the chapter.
func TestTheExample(t *testing.T) {
	r := newRegistry(t, config(1, 5, 7))
	cast(t, r, 2, 1, a, 0, 1)
	checkWeight(t, r, 12, start, a, a)
	punish(t, r, 1, 0)
	checkWeight(t, r, 7, start, a, a)
}

// P10.2: weights written out by hand. Each balance is a bit, so that a weight tells whose balances it contains.
func TestWeight(t *testing.T) {
	r := newRegistry(t, config(3, 1, 2, 4, 8, 16, 32))
	register(t, r, table(at(1, a), 64, 0, 256, 512, 1024, 2048))
	for _, x := range []api.Checkpoint{start, at(1, a)} {
		checkWeight(t, r, 0, x, a, b, c, zero)
	}
	cast(t, r, 2, 3, a, 0, 3)
	cast(t, r, 1, 9, a, 1)
	cast(t, r, 1, 0, b, 2)
	cast(t, r, 1, 4, zero, 4)
	cases := []struct {
		roots       []api.Root
		first, next uint64
	}{
		{nil, 0, 0},
		{[]api.Root{a}, 11, 576},
		{[]api.Root{b}, 4, 256},
		{[]api.Root{c}, 0, 0},
		{[]api.Root{zero}, 16, 1024},
		{[]api.Root{a, b}, 15, 832},
		{[]api.Root{b, a}, 15, 832},
		{[]api.Root{a, a}, 11, 576},
		{[]api.Root{a, b, a, a, b}, 15, 832},
		{[]api.Root{c, a, c}, 11, 576},
		{[]api.Root{zero, b, zero}, 20, 1280},
		{[]api.Root{a, b, c, zero}, 31, 1856},
	}
	for _, x := range cases {
		checkWeight(t, r, x.first, start, x.roots...)
		checkWeight(t, r, x.next, at(1, a), x.roots...)
	}
}

// P10.2, P7.4: without a table there are no balances; a checkpoint is an epoch and a root.
func TestWeightAtUnknownCheckpoints(t *testing.T) {
	r := newRegistry(t, config(2, 5, 7))
	cast(t, r, 2, 1, a, 0, 1)
	for _, x := range []api.Checkpoint{{}, at(1, genesis), at(0, a), at(0, zero), at(most, genesis)} {
		checkWeight(t, r, 0, x, a)
	}
	checkWeight(t, r, 12, start, a)
	register(t, r, table(at(1, genesis), 11, 13))
	checkWeight(t, r, 24, at(1, genesis), a)
	if n := r.Drop(1); n != 1 {
		t.Fatalf("Drop: got %d", n)
	}
	checkWeight(t, r, 0, start, a)
	checkWeight(t, r, 24, at(1, genesis), a)
}

// P10.2: a validator without a vote counts for no root, not even for the zero root.
func TestWeightOfTheZeroRoot(t *testing.T) {
	r := newRegistry(t, config(1, 1, 2, 4))
	checkWeight(t, r, 0, start, zero)
	cast(t, r, 1, 0, zero, 1)
	checkWeight(t, r, 2, start, zero)
	cast(t, r, 1, 0, a, 2)
	checkWeight(t, r, 2, start, zero)
	checkWeight(t, r, 6, start, zero, a)
}

// P10.2: a validator counts where its latest vote is.
func TestWeightMovesWithTheVote(t *testing.T) {
	r := newRegistry(t, config(1, 1, 2, 4))
	cast(t, r, 3, 3, a, 0, 1, 2)
	cast(t, r, 0, 3, b, 0, 1)
	checkWeight(t, r, 7, start, a)
	checkWeight(t, r, 0, start, b)
	cast(t, r, 2, 4, b, 0, 2)
	checkWeight(t, r, 2, start, a)
	checkWeight(t, r, 5, start, b)
	checkWeight(t, r, 7, start, b, a)
}

// P10.2: guilty validators count nowhere, whatever they vote for, before or afterwards.
func TestWeightWithoutGuiltyValidators(t *testing.T) {
	r := newRegistry(t, config(2, 1, 2, 4, 8))
	register(t, r, table(at(1, a), 16, 32, 64, 128))
	cast(t, r, 2, 3, a, 0, 1)
	punish(t, r, 2, 1, 2)
	checkWeight(t, r, 1, start, a)
	checkWeight(t, r, 16, at(1, a), a)
	cast(t, r, 3, 4, b, 1, 2, 3)
	checkWeight(t, r, 1, start, a)
	checkWeight(t, r, 8, start, b)
	checkWeight(t, r, 144, at(1, a), a, b)
	punish(t, r, 2, 0, 1, 3)
	for _, x := range []api.Checkpoint{start, at(1, a)} {
		checkWeight(t, r, 0, x, a, b, zero)
	}
	if l := r.Supporters(b); !slices.Equal(l, []int{1, 2, 3}) {
		t.Errorf("Supporters: got %d", l)
	}
}

// P10.2, R7: weights up to the greatest sum of balances.
func TestGreatestWeight(t *testing.T) {
	r := newRegistry(t, config(1, api.MaxTotal-3, 1, 2))
	cast(t, r, 3, 1, a, 0, 1, 2)
	checkWeight(t, r, 1<<62, start, a, a, a, a, a)
	punish(t, r, 1, 1)
	checkWeight(t, r, 1<<62-1, start, a)
	n := api.MaxValidators
	r = newRegistry(t, config(1, slices.Repeat([]uint64{api.MaxTotal / 1024}, n)...))
	cast(t, r, n, 1, b, numbers(n)...)
	checkWeight(t, r, 1<<62, start, b)
}

// P10.2: each validator may vote for a root of its own.
func TestWeightOfManyRoots(t *testing.T) {
	n := api.MaxValidators
	l, roots := make([]uint64, n), make([]api.Root, n)
	for i := range n {
		l[i], roots[i] = uint64(i), api.Root{0: byte(i), 31: byte(i >> 8)}
	}
	r := newRegistry(t, config(1, l...))
	for i := range n {
		cast(t, r, 1, 1, roots[i], i)
	}
	for i := range n {
		checkWeight(t, r, uint64(i), start, roots[i])
	}
	checkWeight(t, r, uint64(n*(n-1)/2), start, roots...)
	checkWeight(t, r, uint64(n*(n-1)/2), start, append(slices.Clone(roots), roots...)...)
	checkWeight(t, r, uint64(n/2*(n/2-1)/2), start, roots[:n/2]...)
}

// P10.2, R1: a list of roots that is much longer than any tree.
func TestWeightOfALongList(t *testing.T) {
	r := newRegistry(t, config(1, 1, 2, 4))
	cast(t, r, 2, 1, a, 0, 2)
	cast(t, r, 1, 1, b, 1)
	checkWeight(t, r, 5, start, slices.Repeat([]api.Root{c, a, zero}, 500000)...)
	checkWeight(t, r, 7, start, slices.Repeat([]api.Root{b, a, zero}, 500000)...)
}

// P10.2: a registry for no validators has no weights.
func TestRegistryOfNobody(t *testing.T) {
	r := newRegistry(t, config(1))
	checkWeight(t, r, 0, start, zero, a)
	checkWeight(t, r, 0, start)
	if !r.Known(start) {
		t.Error("the first table is not there")
	}
	v, l := r.Snapshot()
	s, e := Restore(config(1), v, l)
	if e != api.OK {
		t.Fatalf("Restore: got %d", e)
	}
	checkRegistry(t, s, api.Votes{}, []api.Table{table(start)})
}

// pick returns some of the numbers from 0 to n - 1, in ascending order.
func pick(random *rand.Rand, n int) []int {
	l := random.Perm(n)[:1+random.Intn(n)]
	slices.Sort(l)
	return l
}

// P10.2, P10.3: in any sequence of calls the weights are those of the votes, members and tables of the snapshot.
func TestRandomRegistries(t *testing.T) {
	random := rand.New(rand.NewSource(1))
	for _, n := range []int{1, 2, 9} {
		balances := make([]uint64, n)
		for i := range balances {
			balances[i] = 1 << i
		}
		r := newRegistry(t, config(6, balances...))
		for i := range 200 {
			act(random, i, n, r)
			v, l := r.Snapshot()
			checkRegistry(t, r, v, l)
		}
	}
}

// act does the same to each of these registries for n validators, at random, and returns what the calls returned.
func act(random *rand.Rand, time, n int, registries ...*Registry) []string {
	roots := []api.Root{zero, a, b, c}
	root, epoch, kind, l := roots[random.Intn(4)], uint64(random.Intn(time/10+2)), random.Intn(20), pick(random, n)
	balances := make([]uint64, n)
	for i := range balances {
		balances[i] = uint64(random.Intn(1000))
	}
	results := []string{}
	for _, r := range registries {
		switch {
		case kind == 0:
			changed, e := r.Punish(l[0])
			results = append(results, fmt.Sprint("Punish ", changed, e))
		case kind == 1:
			results = append(results, fmt.Sprint("Drop ", r.Drop(epoch/2)))
		case kind < 8:
			results = append(results, fmt.Sprint("Register ", r.Register(table(at(epoch, root), balances...))))
		default:
			changed, e := r.Cast(epoch, root, l...)
			results = append(results, fmt.Sprint("Cast ", changed, e))
		}
	}
	return results
}

// R2: the balances of a configuration stay as they are, with their spare capacity, and are not kept.
func TestTheConfigurationStaysAsItIs(t *testing.T) {
	before := []uint64{5, 7, 11, most, 13}
	whole := slices.Clone(before)
	r := newRegistry(t, config(1, whole[:3]...))
	for _, x := range []api.Config{config(0, whole[:3]...), config(1, whole...)} {
		if r, e := New(x); r != nil || e == api.OK {
			t.Fatalf("New: got %v, %d", r, e)
		}
	}
	v, _ := r.Snapshot()
	s, e := Restore(config(1, whole[:3]...), v, nil)
	if e != api.OK {
		t.Fatalf("Restore: got %d", e)
	}
	if !slices.Equal(whole, before) {
		t.Errorf("the balances became %d", whole)
	}
	clear(whole)
	checkRegistry(t, r, v, []api.Table{table(start, 5, 7, 11)})
	checkRegistry(t, s, v, nil)
}

// R2: a list of roots stays as it is, with its spare capacity.
func TestTheRootsStayAsTheyAre(t *testing.T) {
	before := []api.Root{b, a, b, a, zero, c}
	whole := slices.Clone(before)
	r := newRegistry(t, config(1, 5, 7))
	cast(t, r, 1, 1, a, 0)
	cast(t, r, 1, 1, b, 1)
	for n := range len(whole) + 1 {
		r.Weight(start, whole[:n]...)
		if !slices.Equal(whole, before) {
			t.Fatalf("the roots became %x", whole)
		}
	}
}
