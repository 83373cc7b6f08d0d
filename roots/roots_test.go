package roots

import (
	"encoding/hex"
	"math/big"
	"slices"
	"strings"
	"testing"

	"forkhead/api"
)

// mixed has different bytes, and most of them have different halves.
var mixed = api.Root{
	0x01, 0x23, 0x45, 0x67, 0x89, 0xab, 0xcd, 0xef, 0xfe, 0xdc, 0xba, 0x98, 0x76, 0x54, 0x32, 0x10,
	0x00, 0x11, 0x22, 0x33, 0x44, 0x55, 0x66, 0x77, 0x88, 0x99, 0xaa, 0xbb, 0xcc, 0xdd, 0xee, 0xff,
}

// mixedNotation is the notation of mixed.
const mixedNotation = "0x0123456789abcdeffedcba987654321000112233445566778899aabbccddeeff"

// all is the greatest root.
var all = filled(0xff)

// filled returns the root whose bytes are all b.
func filled(b byte) api.Root {
	r := api.Root{}
	for i := range r {
		r[i] = b
	}
	return r
}

// samples returns roots that differ from each other at the ends, in the middle or everywhere.
func samples() []api.Root {
	list := []api.Root{{}, all, mixed, filled(1), filled(0x7f), filled(0x80)}
	for _, place := range []int{0, 1, 7, 8, 15, 16, 30, 31} {
		for _, b := range []byte{1, 0x0f, 0x10, 0x7f, 0x80, 0xfe, 0xff} {
			r := api.Root{}
			r[place] = b
			list = append(list, r)
		}
		r := all
		r[place] = 0xfe
		list = append(list, r)
	}
	return list
}

// number returns the number whose bytes, the most significant one first, are those of r.
func number(r api.Root) *big.Int {
	return new(big.Int).SetBytes(r[:])
}

// P3.1: a root is zero exactly if none of its bits is set.
func TestIsZero(t *testing.T) {
	if !IsZero(api.Root{}) {
		t.Error("the zero root is not zero")
	}
	for bit := range 256 {
		r := api.Root{}
		r[bit/8] = 1 << (bit % 8)
		if IsZero(r) {
			t.Errorf("IsZero(%v) is true", r)
		}
	}
	for _, r := range []api.Root{all, mixed, filled(1), filled(0x80)} {
		if IsZero(r) {
			t.Errorf("IsZero(%v) is true", r)
		}
	}
}

// P3.1: the first byte that differs decides, as a number without a sign.
func TestCompare(t *testing.T) {
	cases := []struct {
		a, b  api.Root
		order int
	}{
		{api.Root{}, api.Root{}, 0},
		{all, all, 0},
		{mixed, mixed, 0},
		{api.Root{}, all, -1},
		{api.Root{}, api.Root{31: 1}, -1},
		{api.Root{31: 1}, api.Root{30: 1}, -1},
		{api.Root{31: 0xff}, api.Root{0: 1}, -1},
		{api.Root{0: 1}, api.Root{0: 1, 31: 1}, -1},
		{api.Root{0: 1, 1: 9}, api.Root{0: 2, 1: 3}, -1},
		{api.Root{0: 0x7f}, api.Root{0: 0x80}, -1},
		{api.Root{0: 1}, api.Root{0: 0xff}, -1},
		{api.Root{7: 1}, api.Root{0: 1}, -1},
		{api.Root{8: 5}, api.Root{8: 5, 15: 1}, -1},
	}
	for _, c := range cases {
		if got := Compare(c.a, c.b); got != c.order {
			t.Errorf("Compare(%v, %v): got %d, want %d", c.a, c.b, got, c.order)
		}
		if got := Compare(c.b, c.a); got != -c.order {
			t.Errorf("Compare(%v, %v): got %d, want %d", c.b, c.a, got, -c.order)
		}
	}
}

// P3.1: every pair of the samples, compared as numbers whose most significant byte is byte 0.
func TestCompareIsBytewise(t *testing.T) {
	for _, a := range samples() {
		for _, b := range samples() {
			if got, order := Compare(a, b), number(a).Cmp(number(b)); got != order {
				t.Fatalf("Compare(%v, %v): got %d, want %d", a, b, got, order)
			}
		}
	}
}

// P3.2: notations written out by hand.
func TestNotations(t *testing.T) {
	cases := []struct {
		r api.Root
		s string
	}{
		{api.Root{}, "0x" + strings.Repeat("0", 64)},
		{all, "0x" + strings.Repeat("f", 64)},
		{filled(0x9a), "0x" + strings.Repeat("9a", 32)},
		{mixed, mixedNotation},
		{api.Root{0: 1}, "0x01" + strings.Repeat("0", 62)},
		{api.Root{0: 0xf0}, "0xf" + strings.Repeat("0", 63)},
		{api.Root{31: 0x0a}, "0x" + strings.Repeat("0", 63) + "a"},
		{api.Root{0: 1, 1: 0xab, 31: 0xf0}, "0x01ab" + strings.Repeat("0", 58) + "f0"},
	}
	for _, c := range cases {
		if s := Format(c.r); s != c.s {
			t.Errorf("Format(%v): got %q, want %q", c.r, s, c.s)
		}
		if r, e := Parse(c.s); r != c.r || e != api.OK {
			t.Errorf("Parse(%q): got %v, %d, want %v", c.s, r, e, c.r)
		}
	}
}

// P3.2: every value of a byte at every place, and back again.
func TestFormatIsParsedAgain(t *testing.T) {
	list := samples()
	for place := range len(api.Root{}) {
		for b := range 256 {
			r := mixed
			r[place] = byte(b)
			list = append(list, r)
		}
	}
	for _, r := range list {
		s := Format(r)
		if want := "0x" + hex.EncodeToString(r[:]); s != want {
			t.Fatalf("Format(%v): got %q, want %q", r, s, want)
		}
		if again, e := Parse(s); again != r || e != api.OK {
			t.Fatalf("Parse(%q): got %v, %d, want %v", s, again, e, r)
		}
	}
}

// P3.2: strings that are no notations because of their length, their beginning or one of their characters.
func TestParseOfFaultySyntax(t *testing.T) {
	pairs := mixedNotation[2:]
	faulty := []string{
		"", "0", "0x", "x", "0x0", "0x00",
		pairs, "00" + pairs, "xx" + pairs, "0X" + pairs, "x0" + pairs, "1x" + pairs, "00x" + pairs[1:],
		"0x0x" + pairs[2:], "0x" + mixedNotation, "\\x" + pairs, "#x" + pairs,
		mixedNotation[:65], mixedNotation[:64], mixedNotation + "0", mixedNotation + "00", mixedNotation + mixedNotation,
		" " + mixedNotation, mixedNotation + " ", mixedNotation + "\n", " 0x" + pairs[1:], mixedNotation[:65] + " ",
		mixedNotation[:65] + "\n", mixedNotation[:65] + "\x00",
		"0x" + strings.ToUpper(pairs), strings.ToUpper(mixedNotation), strings.Replace(mixedNotation, "ab", "Ab", 1),
		"0x-" + pairs[1:], "0x+" + pairs[1:], "0x0_" + pairs[2:], strings.Replace(mixedNotation, "ab", "ag", 1),
		"0x" + strings.Repeat("\u0661", 32), "0x" + strings.Repeat("\uff41", 64), "0x" + strings.Repeat("0", 1000),
	}
	for _, s := range faulty {
		if r, e := Parse(s); r != (api.Root{}) || e != api.ErrSyntax {
			t.Errorf("Parse(%q): got %v, %d", s, r, e)
		}
	}
}

// P3.2: every byte that does not belong to the notation is a fault, at every place.
func TestParseOfEveryByte(t *testing.T) {
	for place := range len(mixedNotation) {
		for b := range 256 {
			s := []byte(mixedNotation)
			s[place] = byte(b)
			isDigit := b >= '0' && b <= '9' || b >= 'a' && b <= 'f'
			isNotation := place >= 2 && isDigit || string(s) == mixedNotation
			r, e := Parse(string(s))
			if isNotation && (Format(r) != string(s) || e != api.OK) {
				t.Fatalf("Parse(%q): got %v, %d", s, r, e)
			}
			if !isNotation && (r != (api.Root{}) || e != api.ErrSyntax) {
				t.Fatalf("Parse(%q): got %v, %d", s, r, e)
			}
		}
	}
}

// P3.3: the greatest argument, wherever it stands; without arguments there is none.
func TestGreatest(t *testing.T) {
	a, b, c := api.Root{31: 9}, api.Root{0: 1}, api.Root{0: 1, 31: 1}
	cases := []struct {
		l  []api.Root
		r  api.Root
		ok bool
	}{
		{nil, api.Root{}, false},
		{[]api.Root{}, api.Root{}, false},
		{[]api.Root{{}}, api.Root{}, true},
		{[]api.Root{{}, {}}, api.Root{}, true},
		{[]api.Root{a}, a, true},
		{[]api.Root{a, {}}, a, true},
		{[]api.Root{a, b, c}, c, true},
		{[]api.Root{a, c, b}, c, true},
		{[]api.Root{c, b, a}, c, true},
		{[]api.Root{b, c, c, a}, c, true},
		{[]api.Root{{0: 0x7f}, {0: 0x80}, {0: 1}}, api.Root{0: 0x80}, true},
		{[]api.Root{mixed, all, {}}, all, true},
	}
	for _, c := range cases {
		if r, ok := Greatest(c.l...); r != c.r || ok != c.ok {
			t.Errorf("Greatest(%v): got %v, %v, want %v, %v", c.l, r, ok, c.r, c.ok)
		}
	}
}

// P3.3: lists in every order, with and without repetitions.
func TestSort(t *testing.T) {
	a, b, c := api.Root{31: 9}, api.Root{0: 1}, api.Root{0: 1, 31: 1}
	cases := []struct {
		l, want []api.Root
	}{
		{nil, nil},
		{[]api.Root{}, nil},
		{[]api.Root{{}}, []api.Root{{}}},
		{[]api.Root{c}, []api.Root{c}},
		{[]api.Root{c, c, c}, []api.Root{c}},
		{[]api.Root{a, b, c}, []api.Root{a, b, c}},
		{[]api.Root{a, c, b}, []api.Root{a, b, c}},
		{[]api.Root{b, a, c}, []api.Root{a, b, c}},
		{[]api.Root{b, c, a}, []api.Root{a, b, c}},
		{[]api.Root{c, a, b}, []api.Root{a, b, c}},
		{[]api.Root{c, b, a}, []api.Root{a, b, c}},
		{[]api.Root{c, a, c, b, a}, []api.Root{a, b, c}},
		{[]api.Root{{}, all, {}, mixed, all}, []api.Root{{}, mixed, all}},
	}
	for _, c := range cases {
		if got := Sort(c.l...); !slices.Equal(got, c.want) {
			t.Errorf("Sort(%v): got %v, want %v", c.l, got, c.want)
		}
	}
}

// P3.3: a long list in which every root occurs several times, far from its like.
func TestSortOfManyRoots(t *testing.T) {
	want := []api.Root{}
	for i := range 300 {
		want = append(want, api.Root{15: byte(i / 256), 16: byte(i)})
	}
	list := []api.Root{}
	for i := range 3 * len(want) {
		// 7 has no factor in common with the length, so each round passes every root.
		list = append(list, want[i*7%len(want)])
	}
	if got := Sort(list...); !slices.Equal(got, want) {
		t.Errorf("got %d roots: %v", len(got), got)
	}
	if r, ok := Greatest(list...); r != want[len(want)-1] || !ok {
		t.Errorf("Greatest: got %v, %v", r, ok)
	}
}

// P3.3: lists in any order, with the root at either end, inside or missing.
func TestContains(t *testing.T) {
	a, b, c := api.Root{31: 9}, api.Root{0: 1}, api.Root{0: 1, 31: 1}
	cases := []struct {
		l    []api.Root
		r    api.Root
		want bool
	}{
		{nil, api.Root{}, false},
		{nil, a, false},
		{[]api.Root{}, a, false},
		{[]api.Root{{}}, api.Root{}, true},
		{[]api.Root{{}}, a, false},
		{[]api.Root{c, a, b}, a, true},
		{[]api.Root{c, a, b}, b, true},
		{[]api.Root{c, a, b}, c, true},
		{[]api.Root{c, a, b}, api.Root{}, false},
		{[]api.Root{b, c}, a, false},
		{[]api.Root{a, c}, b, false},
		{[]api.Root{c, c, a, a}, a, true},
		{[]api.Root{a, b}, api.Root{0: 1, 31: 1}, false},
	}
	for _, c := range cases {
		if got := Contains(c.l, c.r); got != c.want {
			t.Errorf("Contains(%v, %v): got %v", c.l, c.r, got)
		}
	}
}

// R2: the lists and the spare capacity behind them stay as they are.
func TestListsStayAsTheyAre(t *testing.T) {
	before := []api.Root{{3}, {1}, {3}, {2}, {9}, {8}}
	whole := slices.Clone(before)
	if got := Sort(whole[:4]...); !slices.Equal(got, []api.Root{{1}, {2}, {3}}) {
		t.Errorf("Sort: got %v", got)
	}
	if r, ok := Greatest(whole[:4]...); r != (api.Root{3}) || !ok {
		t.Errorf("Greatest: got %v, %v", r, ok)
	}
	if !Contains(whole[:4], api.Root{2}) || Contains(whole[:4], api.Root{9}) {
		t.Error("Contains: the list ends before its spare capacity")
	}
	if !slices.Equal(whole, before) {
		t.Errorf("the argument became %v", whole)
	}
}

// R2: what Sort returns is new memory, also where the argument was in order.
func TestSortReturnsNewMemory(t *testing.T) {
	list := []api.Root{{1}, {2}, {3}}
	sorted := Sort(list...)
	for i := range sorted {
		sorted[i] = all
	}
	_ = append(sorted, all)
	if !slices.Equal(list, []api.Root{{1}, {2}, {3}}) {
		t.Errorf("the argument became %v", list)
	}
	list[0] = mixed
	if !slices.Equal(sorted, []api.Root{all, all, all}) {
		t.Errorf("the result became %v", sorted)
	}
}
