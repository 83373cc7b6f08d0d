package registry

import (
	"math"
	"math/rand"
	"slices"
	"testing"

	"forkhead/api"
)

// votesOf returns these votes and members.
func votesOf(latest []api.Vote, members ...int) api.Votes {
	return api.Votes{Latest: latest, Equivocating: members}
}

// restore returns what Restore returns for arguments that it accepts.
func restore(t *testing.T, x api.Config, v api.Votes, l []api.Table) *Registry {
	t.Helper()
	r, e := Restore(x, v, l)
	if r == nil || e != api.OK {
		t.Fatalf("Restore(%s): got %v, %d", text(v, l), r, e)
	}
	return r
}

// checkRefused checks that Restore returns the error e.
func checkRefused(t *testing.T, e api.Errno, x api.Config, v api.Votes, l []api.Table) {
	t.Helper()
	if r, got := Restore(x, v, l); r != nil || got != e {
		t.Fatalf("Restore(limit %d, %d balances, %s): got %v, %d, want %d", x.TableLimit, len(x.Balances), text(v, l), r, got, e)
	}
}

// P10.3: a snapshot contains all votes, members and tables, in order.
func TestSnapshot(t *testing.T) {
	r := newRegistry(t, config(5, 5, 7, 11, 13))
	none := make([]api.Vote, 4)
	checkRegistry(t, r, votesOf(none), []api.Table{table(start, 5, 7, 11, 13)})
	cast(t, r, 2, 3, a, 0, 2)
	cast(t, r, 1, 0, zero, 3)
	punish(t, r, 1, 3)
	punish(t, r, 1, 1)
	register(t, r, table(at(2, a), 1, 2, 3, 4), table(at(1, b), 5, 6, 7, 8), table(at(1, a), 0, 0, 0, 0), table(at(0, a), 9, 9, 9, 9))
	v := votesOf([]api.Vote{vote(3, a), {}, vote(3, a), vote(0, zero)}, 1, 3)
	l := []api.Table{
		table(at(0, a), 9, 9, 9, 9), table(start, 5, 7, 11, 13), table(at(1, a), 0, 0, 0, 0), table(at(1, b), 5, 6, 7, 8),
		table(at(2, a), 1, 2, 3, 4),
	}
	checkRegistry(t, r, v, l)
	checkRegistry(t, restore(t, config(5, 0, 0, 0, 0), v, l), v, l)
	if n := r.Drop(1); n != 2 {
		t.Fatalf("Drop: got %d", n)
	}
	checkRegistry(t, r, v, l[2:])
	checkRegistry(t, restore(t, config(5, 5, 7, 11, 13), v, l[2:]), v, l[2:])
}

// P10.3: the restored registry has the votes, members and tables that it is given, and not the table of New.
func TestRestore(t *testing.T) {
	latest := [][]api.Vote{
		{{}, {}, {}},
		{vote(0, zero), {}, {}},
		{{}, vote(0, a), vote(most, zero)},
		{vote(3, a), vote(2, b), vote(3, a)},
		{vote(most, c), vote(most, c), vote(most, genesis)},
	}
	members := [][]int{nil, {}, {0}, {2}, {0, 1}, {0, 1, 2}}
	tables := [][]api.Table{
		nil,
		{},
		{table(start, 5, 7, 11)},
		{table(at(0, zero), 0, 0, 0)},
		{table(start, 1, 2, 3)},
		{table(at(0, a), 1, 2, 3), table(at(0, b), 4, 5, 6), table(start, 7, 8, 9)},
		{table(at(4, b), api.MaxTotal, 0, 0), table(at(5, a), 0, 1, api.MaxTotal-1), table(at(most, zero), 7, 8, 9)},
	}
	for _, latest := range latest {
		for _, members := range members {
			for _, l := range tables {
				v := votesOf(latest, members...)
				checkRegistry(t, restore(t, config(3, 5, 7, 11), v, l), v, l)
			}
		}
	}
}

// P10.3: only the number of the balances of the configuration matters, and its limit.
func TestBalancesOfTheConfiguration(t *testing.T) {
	v, l := votesOf([]api.Vote{vote(1, a), {}}, 1), []api.Table{table(start, 1, 2)}
	for _, balances := range [][]uint64{{0, 0}, {5, 7}, {most, most}, {1 << 62, 1}} {
		checkRegistry(t, restore(t, config(1, balances...), v, l), v, l)
		checkRefused(t, api.ErrForm, config(1, balances[:1]...), v, l)
		checkRefused(t, api.ErrForm, config(1, append(balances, 0)...), v, l)
	}
}

// P10.3: a registry may be as large as the limits allow.
func TestRestoreOfTheLargest(t *testing.T) {
	n := api.MaxValidators
	v := votesOf(slices.Repeat([]api.Vote{vote(most, c)}, n), numbers(n)...)
	l := []api.Table{}
	for i := range api.MaxTables {
		l = append(l, table(at(uint64(i), a), slices.Repeat([]uint64{api.MaxTotal / 1024}, n)...))
	}
	x := config(api.MaxTables, make([]uint64, n)...)
	r := restore(t, x, v, l)
	if w, m := r.Snapshot(); text(w, m) != text(v, l) {
		t.Error("another snapshot")
	}
	checkWeight(t, r, 0, at(1, a), c)
	checkRefused(t, api.ErrFull, x, v, append(l, table(at(most, a), make([]uint64, n)...)))
	v.Equivocating = nil
	checkWeight(t, restore(t, x, v, l), 1<<62, at(1, a), c)
}

// P10.3: what is out of range for New is so for Restore, whatever else is wrong.
func TestRangeOfRestore(t *testing.T) {
	for _, limit := range []int{math.MinInt, -1, 0, api.MaxTables + 1, 1<<32 + 1, math.MaxInt} {
		for _, v := range []api.Votes{votesOf(make([]api.Vote, 2)), votesOf(nil), votesOf([]api.Vote{{Epoch: 1}, {}}), votesOf(make([]api.Vote, 2), 5)} {
			for _, l := range [][]api.Table{nil, {table(start, 1, 2)}, {table(start)}, {table(at(1, a), 1, 2), table(start, 1, 2)}} {
				checkRefused(t, api.ErrRange, config(limit, 5, 7), v, l)
			}
		}
	}
	n := api.MaxValidators + 1
	for _, v := range []api.Votes{votesOf(make([]api.Vote, n)), votesOf(nil)} {
		checkRefused(t, api.ErrRange, config(1, make([]uint64, n)...), v, []api.Table{table(start, make([]uint64, n)...)})
	}
}

// malformed are votes of three validators, and members, that Restore refuses.
var malformed = []api.Votes{
	votesOf(nil),
	votesOf(make([]api.Vote, 1)),
	votesOf(make([]api.Vote, 2)),
	votesOf(make([]api.Vote, 4)),
	votesOf(make([]api.Vote, 2), 0),
	votesOf([]api.Vote{vote(1, a), vote(1, a)}),
	votesOf([]api.Vote{vote(1, a), vote(1, a), vote(1, a), vote(1, a)}),
	votesOf(make([]api.Vote, api.MaxValidators)),

	votesOf([]api.Vote{{Epoch: 1}, {}, {}}),
	votesOf([]api.Vote{{}, {}, {Epoch: most}}),
	votesOf([]api.Vote{{}, {Root: a}, {}}),
	votesOf([]api.Vote{{}, {}, {Root: c}}),
	votesOf([]api.Vote{vote(1, a), {Epoch: 1, Root: a}, vote(1, a)}),
	votesOf([]api.Vote{vote(1, a), vote(1, a), {Epoch: 1}}, 0, 1, 2),

	votesOf(make([]api.Vote, 3), -1),
	votesOf(make([]api.Vote, 3), 3),
	votesOf(make([]api.Vote, 3), 0, 3),
	votesOf(make([]api.Vote, 3), math.MinInt),
	votesOf(make([]api.Vote, 3), math.MaxInt),
	votesOf(make([]api.Vote, 3), 0, 1, 2, 3),
	votesOf(make([]api.Vote, 3), 2, 1),
	votesOf(make([]api.Vote, 3), 1, 1),
	votesOf(make([]api.Vote, 3), 0, 2, 1),
	votesOf(make([]api.Vote, 3), 0, 1, 2, 2),
	votesOf([]api.Vote{vote(1, a), vote(1, a), vote(1, a)}, 1, 0),
}

// P10.3: faulty votes and members are ErrForm, whatever the tables are.
func TestFormOfRestore(t *testing.T) {
	for _, v := range malformed {
		for _, l := range [][]api.Table{
			nil,
			{table(start, 1, 2, 3)},
			{table(start, 1<<62, 1, 0)},
			{table(start, 1, 2, 3), table(start, 1, 2, 3)},
			{table(start, 1, 2, 3), table(at(1, a), 1, 2, 3), table(at(2, a), 1, 2, 3)},
			{table(at(1, a), 1, 2, 3), table(start, 1, 2, 3)},
		} {
			checkRefused(t, api.ErrForm, config(2, 5, 7, 11), v, l)
		}
	}
	for _, v := range []api.Votes{votesOf(make([]api.Vote, 1)), votesOf(nil, 0), votesOf(nil, -1)} {
		checkRefused(t, api.ErrForm, config(1), v, nil)
	}
}

// P10.3, R6: the error of the first faulty table counts.
func TestErrorsOfTables(t *testing.T) {
	good, next := table(at(1, b), 1, 2), table(at(2, a), 3, 4)
	short, great := table(at(3, a), 1), table(at(4, a), 1<<62, 1)
	cases := []struct {
		l []api.Table
		e api.Errno
	}{
		{[]api.Table{good}, api.OK},
		{[]api.Table{good, next}, api.OK},
		{[]api.Table{short}, api.ErrForm},
		{[]api.Table{table(at(3, a))}, api.ErrForm},
		{[]api.Table{table(at(3, a), 1, 2, 3)}, api.ErrForm},
		{[]api.Table{table(at(3, a), most, most, most)}, api.ErrForm},
		{[]api.Table{great}, api.ErrOverflow},
		{[]api.Table{table(at(3, a), 1<<63, 1<<63)}, api.ErrOverflow},
		{[]api.Table{good, good}, api.ErrDuplicate},
		{[]api.Table{good, table(at(1, b), 9, 9)}, api.ErrDuplicate},
		{[]api.Table{good, next, good}, api.ErrDuplicate},
		{[]api.Table{good, next, table(at(3, a), 1, 2)}, api.ErrFull},
		{[]api.Table{good, short}, api.ErrForm},
		{[]api.Table{good, great}, api.ErrOverflow},
		{[]api.Table{good, table(at(1, b), 1)}, api.ErrForm},
		{[]api.Table{good, table(at(1, b), 1<<62, 1)}, api.ErrOverflow},
		{[]api.Table{good, next, short}, api.ErrForm},
		{[]api.Table{good, next, great}, api.ErrOverflow},

		{[]api.Table{short, great}, api.ErrForm},
		{[]api.Table{great, short}, api.ErrOverflow},
		{[]api.Table{good, good, short}, api.ErrDuplicate},
		{[]api.Table{good, short, good}, api.ErrForm},
		{[]api.Table{good, next, table(at(3, a), 1, 2), short}, api.ErrFull},
		{[]api.Table{good, next, good, table(at(3, a), 1, 2)}, api.ErrDuplicate},

		{[]api.Table{next, good}, api.ErrOrder},
		{[]api.Table{next, good, short}, api.ErrForm},
		{[]api.Table{next, good, great}, api.ErrOverflow},
		{[]api.Table{next, good, next}, api.ErrDuplicate},
		{[]api.Table{next, good, table(at(3, a), 1, 2)}, api.ErrFull},
	}
	for _, x := range cases {
		v := votesOf([]api.Vote{{}, vote(1, a)}, 0)
		if x.e == api.OK {
			checkRegistry(t, restore(t, config(2, 5, 7), v, x.l), v, x.l)
			continue
		}
		checkRefused(t, x.e, config(2, 5, 7), v, x.l)
	}
}

// P10.3: tables are in ascending order of epochs, then of roots; any two that are not are an error.
func TestOrderOfTables(t *testing.T) {
	ordered := []api.Table{
		table(at(0, zero), 1), table(at(0, c), 1), table(at(0, api.Root{30: 1}), 1), table(at(0, a), 1),
		table(at(0, api.Root{0: 1, 31: 1}), 1), table(at(0, api.Root{0: 0x80}), 1), table(at(1, zero), 1),
		table(at(1, api.Root{0: 0xff}), 1), table(at(2, a), 1), table(at(10, a), 1), table(at(256, zero), 1),
		table(at(1<<63-1, b), 1), table(at(1<<63, a), 1), table(at(most, zero), 1), table(at(most, a), 1),
	}
	x, v := config(len(ordered), 5), votesOf(make([]api.Vote, 1))
	checkRegistry(t, restore(t, x, v, ordered), v, ordered)
	for j := range ordered {
		for i := range j {
			pair := []api.Table{ordered[i], ordered[j]}
			checkRegistry(t, restore(t, x, v, pair), v, pair)
			checkRefused(t, api.ErrOrder, x, v, []api.Table{ordered[j], ordered[i]})
			l := slices.Clone(ordered)
			l[i], l[j] = l[j], l[i]
			checkRefused(t, api.ErrOrder, x, v, l)
		}
	}
	slices.Reverse(ordered)
	checkRefused(t, api.ErrOrder, x, v, ordered)
}

// P10.3: a restored registry continues as the one whose snapshot it was.
func TestRestoredRegistriesBehaveAlike(t *testing.T) {
	random := rand.New(rand.NewSource(2))
	for _, n := range []int{1, 2, 7} {
		x := config(4, make([]uint64, n)...)
		r := newRegistry(t, x)
		for i := range 100 {
			act(random, i, n, r)
			v, l := r.Snapshot()
			s := restore(t, x, v, l)
			checkRegistry(t, s, v, l)
			for range 5 {
				results := act(random, i, n, r, s)
				if results[0] != results[1] {
					t.Fatalf("got %s and %s", results[0], results[1])
				}
				v, l = r.Snapshot()
				checkRegistry(t, s, v, l)
			}
		}
	}
}

// P10.3: the votes that a restored registry has count as the latest ones, and its tables take room.
func TestCallsAfterRestore(t *testing.T) {
	latest := []api.Vote{vote(3, a), {}, vote(0, a), vote(0, zero)}
	r := restore(t, config(2, 1, 2, 4, 8), votesOf(latest, 3), []api.Table{table(at(1, a), 1, 2, 4, 8)})
	cast(t, r, 1, 0, b, 0, 1, 2, 3)
	cast(t, r, 2, 3, b, 0, 1, 2)
	punish(t, r, 1, 1, 3)
	register(t, r, table(start, 16, 32, 64, 128))
	if e := r.Register(table(at(1, b), 0, 0, 0, 0)); e != api.ErrFull {
		t.Errorf("a third table: got %d", e)
	}
	if e := r.Register(table(at(1, a), 0, 0, 0, 0)); e != api.ErrDuplicate {
		t.Errorf("a table that was restored: got %d", e)
	}
	v := votesOf([]api.Vote{vote(3, a), vote(3, b), vote(3, b), vote(0, zero)}, 1, 3)
	checkRegistry(t, r, v, []api.Table{table(start, 16, 32, 64, 128), table(at(1, a), 1, 2, 4, 8)})
	checkWeight(t, r, 5, at(1, a), a, b, zero)
}

// P10.3, R3: registries restored from one snapshot are separate.
func TestRestoredRegistriesAreSeparate(t *testing.T) {
	x := config(2, 5, 7)
	v, l := votesOf([]api.Vote{vote(1, a), {}}, 1), []api.Table{table(start, 5, 7)}
	first, second := restore(t, x, v, l), restore(t, x, v, l)
	cast(t, first, 2, 2, b, 0, 1)
	punish(t, first, 1, 0)
	register(t, first, table(at(1, a), 1, 2))
	checkRegistry(t, second, v, l)
	if n := second.Drop(1); n != 1 {
		t.Fatalf("Drop: got %d", n)
	}
	after := votesOf([]api.Vote{vote(2, b), vote(2, b)}, 0, 1)
	checkRegistry(t, first, after, append(l, table(at(1, a), 1, 2)))
}

// R2: what Restore is given stays as it is, with its spare capacity, and is not kept.
func TestTheSnapshotStaysAsItIs(t *testing.T) {
	latest := []api.Vote{vote(3, a), {}, vote(4, b), {Epoch: 7}}
	members := []int{0, 2, 1, 9}
	balances := []uint64{1, 2, 3, most}
	tables := []api.Table{table(at(1, a), balances[:3]...), table(at(2, a), 4, 5, 6), table(start, 7, 8, 9), table(at(9, a))}
	v, l := votesOf(latest[:3], members[:2]...), tables[:2]
	whole := text(votesOf(latest, members...), append(slices.Clone(tables), table(start, balances...)))
	r := restore(t, config(2, 5, 7, 11), v, l)
	for _, f := range []struct {
		v api.Votes
		l []api.Table
	}{
		{votesOf(latest), nil}, {votesOf(latest[:2]), l}, {votesOf(latest[:3], members...), l}, {v, tables}, {v, tables[1:3]},
	} {
		if _, e := Restore(config(2, 5, 7, 11), f.v, f.l); e == api.OK {
			t.Fatalf("Restore(%s): got no error", text(f.v, f.l))
		}
	}
	if now := text(votesOf(latest, members...), append(slices.Clone(tables), table(start, balances...))); now != whole {
		t.Errorf("the arguments became\n%swere\n%s", now, whole)
	}
	want := text(v, l)
	clear(latest)
	clear(members)
	clear(balances)
	clear(tables)
	if w, m := r.Snapshot(); text(w, m) != want {
		t.Errorf("with the arguments the registry became\n%swant\n%s", text(w, m), want)
	}
}

// R2: a snapshot shares memory neither with the registry nor with another snapshot, and does not follow the registry.
func TestSnapshotsAreNewMemory(t *testing.T) {
	r := newRegistry(t, config(3, 5, 7, 11))
	cast(t, r, 2, 3, a, 0, 2)
	punish(t, r, 2, 0, 1)
	register(t, r, table(at(1, a), 1, 2, 3))
	v, l := votesOf([]api.Vote{vote(3, a), {}, vote(3, a)}, 0, 1), []api.Table{table(start, 5, 7, 11), table(at(1, a), 1, 2, 3)}
	firstVotes, firstTables := r.Snapshot()
	secondVotes, secondTables := r.Snapshot()
	for i := range firstTables {
		_ = append(firstTables[i].Balances[:1], 77, 77)
	}
	for i := range firstVotes.Latest {
		firstVotes.Latest[i] = vote(most, c)
	}
	firstVotes.Equivocating[1] = 2
	_ = append(firstVotes.Latest[:1], vote(7, c), vote(7, c))
	_ = append(firstVotes.Equivocating[:1], 9)
	_ = append(firstTables[:1], table(at(8, b), 8))
	checkRegistry(t, r, v, l)
	cast(t, r, 3, 8, c, 0, 1, 2)
	punish(t, r, 1, 2)
	if n := r.Drop(most); n != 2 {
		t.Fatalf("Drop: got %d", n)
	}
	if text(secondVotes, secondTables) != text(v, l) {
		t.Errorf("another snapshot became\n%swant\n%s", text(secondVotes, secondTables), text(v, l))
	}
}
