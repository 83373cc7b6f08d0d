package balances

import (
	"fmt"
	"math"
	"math/rand"
	"slices"
	"testing"

	"forkhead/api"
)

// most is the greatest number.
const most = math.MaxUint64

// at returns a checkpoint whose root begins with the byte root.
func at(epoch uint64, root byte) api.Checkpoint {
	return api.Checkpoint{Epoch: epoch, Root: api.Root{root}}
}

// table returns a table of c with these balances.
func table(c api.Checkpoint, l ...uint64) api.Table {
	return api.Table{Checkpoint: c, Balances: l}
}

// text shows tables; nil and empty lists look alike.
func text(l ...api.Table) string {
	s := ""
	for _, t := range l {
		s += fmt.Sprintf("%d %x %d\n", t.Epoch, t.Root, t.Balances)
	}
	return s
}

// bookOf returns a book with these tables.
func bookOf(t *testing.T, validators, limit int, l ...api.Table) *Book {
	t.Helper()
	b, e := NewBook(validators, limit)
	if b == nil || e != api.OK {
		t.Fatalf("NewBook(%d, %d): got %v, %d", validators, limit, b, e)
	}
	for _, x := range l {
		if e := b.Register(x); e != api.OK {
			t.Fatalf("Register(%s): got %d", text(x), e)
		}
	}
	return b
}

// checkBook checks that the book contains these tables, which are in order, and no others.
func checkBook(t *testing.T, b *Book, want ...api.Table) {
	t.Helper()
	if got := b.Tables(); text(got...) != text(want...) {
		t.Fatalf("Tables: got\n%swant\n%s", text(got...), text(want...))
	}
	for _, x := range want {
		total := uint64(0)
		for i, n := range x.Balances {
			total += n
			if got := b.Balance(x.Checkpoint, i); got != n {
				t.Fatalf("Balance(%v, %d): got %d, want %d", x.Checkpoint, i, got, n)
			}
		}
		if got := b.Total(x.Checkpoint); got != total {
			t.Fatalf("Total(%v): got %d, want %d", x.Checkpoint, got, total)
		}
		if !b.Known(x.Checkpoint) {
			t.Fatalf("Known(%v) is false", x.Checkpoint)
		}
		for _, i := range []int{math.MinInt, -1, len(x.Balances), len(x.Balances) + 1, math.MaxInt} {
			if got := b.Balance(x.Checkpoint, i); got != 0 {
				t.Fatalf("Balance(%v, %d): got %d", x.Checkpoint, i, got)
			}
		}
	}
}

// checkUnknown checks that the book has no table of c.
func checkUnknown(t *testing.T, b *Book, c api.Checkpoint) {
	t.Helper()
	if b.Known(c) || b.Total(c) != 0 {
		t.Fatalf("%v: got %v, %d", c, b.Known(c), b.Total(c))
	}
	for _, i := range []int{math.MinInt, -1, 0, 1, api.MaxValidators, math.MaxInt} {
		if n := b.Balance(c, i); n != 0 {
			t.Fatalf("Balance(%v, %d): got %d", c, i, n)
		}
	}
}

// checkRefused checks that the book refuses a table and stays as it is.
func checkRefused(t *testing.T, b *Book, x api.Table, e api.Errno) {
	t.Helper()
	before := b.Tables()
	if got := b.Register(x); got != e {
		t.Fatalf("Register(%s): got %d, want %d", text(x), got, e)
	}
	checkBook(t, b, before...)
}

// P7.1: the number of balances counts before their sum.
func TestValidateTable(t *testing.T) {
	cases := []struct {
		l          []uint64
		validators int
		e          api.Errno
	}{
		{nil, 0, api.OK},
		{[]uint64{}, 0, api.OK},
		{[]uint64{0}, 1, api.OK},
		{[]uint64{5, 6}, 2, api.OK},
		{[]uint64{api.MaxTotal}, 1, api.OK},
		{[]uint64{api.MaxTotal - 1, 1}, 2, api.OK},
		{[]uint64{0, api.MaxTotal, 0}, 3, api.OK},
		{slices.Repeat([]uint64{api.MaxTotal / 1024}, 1024), 1024, api.OK},
		{make([]uint64, api.MaxValidators+1), api.MaxValidators + 1, api.OK},

		{nil, 1, api.ErrForm},
		{nil, -1, api.ErrForm},
		{[]uint64{1}, -1, api.ErrForm},
		{[]uint64{1}, 0, api.ErrForm},
		{[]uint64{1, 2, 3}, 2, api.ErrForm},
		{[]uint64{1, 2}, 3, api.ErrForm},
		{[]uint64{1}, math.MinInt, api.ErrForm},
		{[]uint64{1}, math.MaxInt, api.ErrForm},
		{[]uint64{most, most}, 1, api.ErrForm},
		{[]uint64{most, most}, 3, api.ErrForm},

		{[]uint64{api.MaxTotal + 1}, 1, api.ErrOverflow},
		{[]uint64{api.MaxTotal, 1}, 2, api.ErrOverflow},
		{[]uint64{1, api.MaxTotal}, 2, api.ErrOverflow},
		{[]uint64{most}, 1, api.ErrOverflow},
		{[]uint64{most, 1}, 2, api.ErrOverflow},
		{[]uint64{most, 2, 0}, 3, api.ErrOverflow},
		{[]uint64{1 << 63, 1 << 63}, 2, api.ErrOverflow},
		{[]uint64{1 << 62, 1 << 62, 1 << 62, 1 << 62}, 4, api.ErrOverflow},
		{slices.Repeat([]uint64{most}, 1024), 1024, api.ErrOverflow},
		{append(slices.Repeat([]uint64{api.MaxTotal / 1024}, 1023), api.MaxTotal/1024+1), 1024, api.ErrOverflow},
	}
	for _, c := range cases {
		if e := ValidateTable(table(at(3, 4), c.l...), c.validators); e != c.e {
			t.Errorf("%d balances for %d validators: got %d, want %d", len(c.l), c.validators, e, c.e)
		}
	}
}

// P7.2: the bounds of both numbers.
func TestNewBook(t *testing.T) {
	for _, validators := range []int{0, 1, 2, api.MaxValidators - 1, api.MaxValidators} {
		for _, limit := range []int{1, 2, api.MaxTables - 1, api.MaxTables} {
			b := bookOf(t, validators, limit)
			checkBook(t, b)
			checkUnknown(t, b, api.Checkpoint{})
			checkUnknown(t, b, at(1, 2))
			if n := b.Drop(most); n != 0 {
				t.Errorf("Drop: got %d", n)
			}
		}
	}
	for _, c := range [][2]int{
		{-1, 1}, {math.MinInt, 1}, {api.MaxValidators + 1, 1}, {math.MaxInt, 1}, {1 << 32, 1},
		{0, 0}, {0, -1}, {0, math.MinInt}, {0, api.MaxTables + 1}, {0, math.MaxInt}, {0, 1<<32 + 1},
		{-1, 0}, {api.MaxValidators + 1, api.MaxTables + 1},
	} {
		if b, e := NewBook(c[0], c[1]); b != nil || e != api.ErrRange {
			t.Errorf("NewBook(%d, %d): got %v, %d", c[0], c[1], b, e)
		}
	}
}

// P7.2: a book keeps its two numbers.
func TestNumbersOfBooks(t *testing.T) {
	for _, validators := range []int{0, 1, 5, api.MaxValidators} {
		for _, limit := range []int{1, 2, api.MaxTables} {
			b := bookOf(t, validators, limit)
			for i := range limit {
				checkRefused(t, b, table(at(uint64(i), 1), make([]uint64, validators+1)...), api.ErrForm)
				if validators > 0 {
					checkRefused(t, b, table(at(uint64(i), 1), make([]uint64, validators-1)...), api.ErrForm)
				}
				if e := b.Register(table(at(uint64(i), 1), make([]uint64, validators)...)); e != api.OK {
					t.Fatalf("table %d of %d: got %d", i, limit, e)
				}
			}
			checkRefused(t, b, table(at(most, 1), make([]uint64, validators)...), api.ErrFull)
		}
	}
}

// P7.2, R3: what one book is given does not show in another one.
func TestBooksAreSeparate(t *testing.T) {
	first, second := bookOf(t, 1, 1, table(at(1, 1), 5)), bookOf(t, 2, 2)
	checkBook(t, second)
	if e := second.Register(table(at(1, 1), 6, 7)); e != api.OK {
		t.Fatal(e)
	}
	second.Drop(1)
	checkBook(t, first, table(at(1, 1), 5))
	second.Drop(2)
	checkBook(t, first, table(at(1, 1), 5))
}

// P7.3: the errors, also where several of them apply; none of them changes the book.
func TestRegisterErrors(t *testing.T) {
	known, other := at(2, 7), at(3, 7)
	notFull := bookOf(t, 2, 2, table(known, 5, 6))
	full := bookOf(t, 2, 1, table(known, 5, 6))
	for _, b := range []*Book{notFull, full} {
		for _, c := range []api.Checkpoint{known, other, {}} {
			checkRefused(t, b, table(c), api.ErrForm)
			checkRefused(t, b, table(c, 1), api.ErrForm)
			checkRefused(t, b, table(c, 1, 2, 3), api.ErrForm)
			checkRefused(t, b, table(c, most, most, most), api.ErrForm)
			checkRefused(t, b, table(c, 1<<62, 1), api.ErrOverflow)
			checkRefused(t, b, table(c, 1<<63, 1<<63), api.ErrOverflow)
		}
		checkRefused(t, b, table(known, 5, 6), api.ErrDuplicate)
		checkRefused(t, b, table(known, 1, 2), api.ErrDuplicate)
		checkRefused(t, b, table(known, 0, 0), api.ErrDuplicate)
		checkUnknown(t, b, other)
		checkUnknown(t, b, api.Checkpoint{})
	}
	checkRefused(t, full, table(other, 1, 2), api.ErrFull)
	checkRefused(t, full, table(at(2, 8), 1, 2), api.ErrFull)
	if e := notFull.Register(table(other, 1, 2)); e != api.OK {
		t.Errorf("a refused table took room: got %d", e)
	}
}

// P7.3, P7.4: tables differ if their epochs or any byte of their roots differ.
func TestCheckpointsOfTables(t *testing.T) {
	b := bookOf(t, 1, api.MaxTables)
	want := []api.Table{}
	for _, epoch := range []uint64{0, most} {
		for place := len(api.Root{}) - 1; place >= 0; place-- {
			c := api.Checkpoint{Epoch: epoch}
			c.Root[place] = 1
			checkUnknown(t, b, c)
			x := table(c, epoch>>3+uint64(place))
			if e := b.Register(x); e != api.OK {
				t.Fatalf("%v: got %d", c, e)
			}
			want = append(want, x)
			checkBook(t, b, want...)
		}
	}
	checkUnknown(t, b, api.Checkpoint{})
	checkUnknown(t, b, api.Checkpoint{Epoch: most})
	checkUnknown(t, b, at(1, 1))
}

// P7.4: a table may contain nothing but zeros, or nothing at all, and its checkpoint may be zero.
func TestTablesOfNothing(t *testing.T) {
	for _, l := range [][]uint64{nil, {}, {0}, {0, 0}} {
		b := bookOf(t, len(l), 2)
		for _, c := range []api.Checkpoint{{}, at(0, 1)} {
			checkUnknown(t, b, c)
			if e := b.Register(table(c, l...)); e != api.OK {
				t.Fatalf("%d: got %d", l, e)
			}
			checkRefused(t, b, table(c, l...), api.ErrDuplicate)
		}
		checkBook(t, b, table(api.Checkpoint{}, l...), table(at(0, 1), l...))
		if n := b.Drop(1); n != 2 {
			t.Errorf("Drop: got %d", n)
		}
		checkUnknown(t, b, api.Checkpoint{})
	}
}

// P7.4: balances and totals written out by hand, up to the greatest sum.
func TestBalances(t *testing.T) {
	b := bookOf(t, 3, 4, table(at(1, 1), 5, 0, 7), table(at(1, 2), 0, api.MaxTotal-1, 1), table(at(2, 1), api.MaxTotal, 0, 0))
	cases := []struct {
		c       api.Checkpoint
		l       [3]uint64
		total   uint64
		isKnown bool
	}{
		{at(1, 1), [3]uint64{5, 0, 7}, 12, true},
		{at(1, 2), [3]uint64{0, api.MaxTotal - 1, 1}, 1 << 62, true},
		{at(2, 1), [3]uint64{api.MaxTotal, 0, 0}, 1 << 62, true},
		{at(2, 2), [3]uint64{}, 0, false},
		{at(0, 1), [3]uint64{}, 0, false},
		{api.Checkpoint{}, [3]uint64{}, 0, false},
	}
	for _, c := range cases {
		got := [3]uint64{b.Balance(c.c, 0), b.Balance(c.c, 1), b.Balance(c.c, 2)}
		if got != c.l || b.Total(c.c) != c.total || b.Known(c.c) != c.isKnown {
			t.Errorf("%v: got %d, %d, %v", c.c, got, b.Total(c.c), b.Known(c.c))
		}
		for _, i := range []int{math.MinInt, -3, -1, 3, 4, 1 << 32, math.MaxInt} {
			if n := b.Balance(c.c, i); n != 0 {
				t.Errorf("Balance(%v, %d): got %d", c.c, i, n)
			}
		}
	}
}

// P7.5: tables before the epoch go, those of the epoch stay; dropping makes room.
func TestDrop(t *testing.T) {
	all := []api.Table{
		table(api.Checkpoint{}, 1), table(at(0, 3), 2), table(at(1, 2), 3), table(at(4, 1), 4), table(at(4, 9), 5),
		table(at(1<<63-1, 1), 6), table(at(1<<63, 1), 7), table(at(most, 0), 8), table(at(most, 1), 9),
	}
	cases := []struct {
		epoch uint64
		n     int
	}{
		{0, 0}, {1, 2}, {2, 3}, {3, 3}, {4, 3}, {5, 5}, {1<<63 - 1, 5}, {1 << 63, 6}, {1<<63 + 1, 7}, {most - 1, 7}, {most, 7},
	}
	for _, c := range cases {
		b := bookOf(t, 1, len(all), all...)
		checkRefused(t, b, table(at(8, 8), 1), api.ErrFull)
		for _, n := range []int{c.n, 0} {
			if got := b.Drop(c.epoch); got != n {
				t.Errorf("Drop(%d): got %d, want %d", c.epoch, got, n)
			}
			checkBook(t, b, all[c.n:]...)
		}
		for _, x := range all[:c.n] {
			checkUnknown(t, b, x.Checkpoint)
			if e := b.Register(x); e != api.OK {
				t.Errorf("%s behind Drop(%d): got %d", text(x), c.epoch, e)
			}
		}
		checkBook(t, b, all...)
		checkRefused(t, b, table(at(8, 8), 1), api.ErrFull)
	}
}

// ordered returns tables in the order of P7.5, which single bits, signs and later bytes decide.
func ordered() []api.Table {
	checkpoints := []api.Checkpoint{
		{},
		{Root: api.Root{31: 1}},
		{Root: api.Root{31: 0xff}},
		{Root: api.Root{30: 1}},
		{Root: api.Root{16: 1}},
		{Root: api.Root{8: 1}},
		{Root: api.Root{7: 1}},
		{Root: api.Root{0: 1}},
		{Root: api.Root{0: 1, 1: 9}},
		{Root: api.Root{0: 2, 1: 3}},
		{Root: api.Root{0: 0x7f, 1: 0xff}},
		{Root: api.Root{0: 0x80}},
		{Root: api.Root{0: 0xff}},
		{Epoch: 1},
		{Epoch: 1, Root: api.Root{0: 0xff}},
		{Epoch: 2, Root: api.Root{31: 1}},
		{Epoch: 10, Root: api.Root{0: 5}},
		{Epoch: 255, Root: api.Root{0: 9}},
		{Epoch: 256, Root: api.Root{0: 8}},
		{Epoch: 1<<63 - 1, Root: api.Root{0: 7}},
		{Epoch: 1 << 63, Root: api.Root{0: 6}},
		{Epoch: most},
		{Epoch: most, Root: api.Root{31: 1}},
	}
	l := []api.Table{}
	for i, c := range checkpoints {
		l = append(l, table(c, uint64(i), uint64(3*i)))
	}
	return l
}

// P7.5: Tables has the same order whatever the order of the calls, every time.
func TestOrderOfTables(t *testing.T) {
	random := rand.New(rand.NewSource(1))
	want := ordered()
	for range 50 {
		l := slices.Clone(want)
		random.Shuffle(len(l), func(i, j int) { l[i], l[j] = l[j], l[i] })
		b := bookOf(t, 2, api.MaxTables, l...)
		checkBook(t, b, want...)
		checkBook(t, b, want...)
	}
}

// model is a book as a list of tables in the order of P7.5.
type model struct {
	limit int
	l     []api.Table
}

// place returns where the table of c is, or where it would be.
func (m *model) place(c api.Checkpoint) (int, bool) {
	for i, x := range m.l {
		if x.Checkpoint == c {
			return i, true
		}
		if x.Epoch > c.Epoch || x.Epoch == c.Epoch && string(x.Root[:]) > string(c.Root[:]) {
			return i, false
		}
	}
	return len(m.l), false
}

func (m *model) register(x api.Table) api.Errno {
	i, isKnown := m.place(x.Checkpoint)
	if isKnown {
		return api.ErrDuplicate
	}
	if len(m.l) == m.limit {
		return api.ErrFull
	}
	m.l = slices.Insert(m.l, i, x)
	return api.OK
}

func (m *model) drop(epoch uint64) int {
	before := len(m.l)
	m.l = slices.DeleteFunc(m.l, func(x api.Table) bool { return x.Epoch < epoch })
	return before - len(m.l)
}

// P7.3 to P7.5: long sequences of calls, compared with a list.
func TestBookIsAList(t *testing.T) {
	random := rand.New(rand.NewSource(2))
	for _, limit := range []int{1, 2, 7, api.MaxTables} {
		b, m := bookOf(t, 3, limit), &model{limit: limit}
		for range 1000 {
			c := at(uint64(random.Intn(12)), byte(random.Intn(12)))
			if random.Intn(20) == 0 {
				if got, want := b.Drop(c.Epoch), m.drop(c.Epoch); got != want {
					t.Fatalf("Drop(%d): got %d, want %d", c.Epoch, got, want)
				}
			} else {
				x := table(c, uint64(random.Intn(5)), random.Uint64()>>3, random.Uint64()>>3)
				if got, want := b.Register(x), m.register(x); got != want {
					t.Fatalf("Register(%s): got %d, want %d", text(x), got, want)
				}
			}
			checkBook(t, b, m.l...)
			if _, isKnown := m.place(c); !isKnown {
				checkUnknown(t, b, c)
			}
		}
	}
}

// R2: a table that is given stays as it is, with the spare capacity behind its balances.
func TestTheArgumentStaysAsItIs(t *testing.T) {
	before := []uint64{4, 1, 3, 9, 8}
	whole := slices.Clone(before)
	x := table(at(1, 1), whole[:3]...)
	b := bookOf(t, 3, 1, x)
	checkRefused(t, b, x, api.ErrDuplicate)
	checkRefused(t, b, table(at(2, 1), whole[:3]...), api.ErrFull)
	if e := ValidateTable(x, 3); e != api.OK {
		t.Errorf("got %d", e)
	}
	l := b.Tables()
	_ = append(l[0].Balances, 7, 7)
	b.Drop(2)
	if !slices.Equal(whole, before) || len(x.Balances) != 3 {
		t.Errorf("the argument became %d, %d", x.Balances, whole)
	}
}

// R2: what becomes of a table after the call does not show in the book, whether the call took it or refused it.
func TestTheBookKeepsNoArgument(t *testing.T) {
	whole := []uint64{4, 1, 3, 9, 8}
	refused := []uint64{1, 1, 1}
	b := bookOf(t, 3, 2, table(at(1, 1), whole[:3]...))
	checkRefused(t, b, table(at(1, 1), refused...), api.ErrDuplicate)
	// The same list may serve for another table.
	if e := b.Register(table(at(2, 1), whole[2:]...)); e != api.OK {
		t.Fatal(e)
	}
	for i := range whole {
		whole[i] = most
	}
	clear(refused)
	checkBook(t, b, table(at(1, 1), 4, 1, 3), table(at(2, 1), 3, 9, 8))
}

// R2: what Tables returns shares memory neither with the book nor with another result, nor do its parts with each other.
func TestTablesAreNewMemory(t *testing.T) {
	want := []api.Table{table(at(1, 1), 4, 1), table(at(1, 2), 3, 9), table(at(2, 1), 8, 7)}
	b := bookOf(t, 2, 3, want...)
	first, second := b.Tables(), b.Tables()
	for i := range first {
		first[i].Balances[0], first[i].Balances[1] = most, most
	}
	_ = append(first[:1], table(at(9, 9), 6, 6))
	first[2] = api.Table{}
	if text(second...) != text(want...) {
		t.Errorf("another result became\n%s", text(second...))
	}
	checkBook(t, b, want...)
	// A result outlives its tables.
	b.Drop(most)
	if text(second...) != text(want...) {
		t.Errorf("after Drop a result became\n%s", text(second...))
	}
}

// R2: a longer list behind a part of a result still belongs to that part alone.
func TestPartsOfTablesAreSeparate(t *testing.T) {
	want := []api.Table{table(at(1, 1), 4, 1, 5), table(at(1, 2), 3, 9, 2), table(at(2, 1), 8, 7, 6)}
	l := bookOf(t, 3, 3, want...).Tables()
	for _, x := range l {
		_ = append(x.Balances, most, most, most)
	}
	if text(l...) != text(want...) {
		t.Errorf("the parts became\n%s", text(l...))
	}
}
