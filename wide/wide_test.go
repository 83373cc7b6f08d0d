package wide

import (
	"math/big"
	"slices"
	"strings"
	"testing"

	"forkhead/api"
)

// most is the greatest limb.
const most = 1<<64 - 1

// greatest is 2^256 - 1 in decimal notation.
const greatest = "115792089237316195423570985008687907853269984665640564039457584007913129639935"

// all is 2^256 - 1.
var all = api.Wide{most, most, most, most}

// factors are one-limb numbers around which carries and high words change.
var factors = []uint64{0, 1, 2, 3, 7, 10, 1<<32 - 1, 1 << 32, 1<<32 + 1, most / 10, 1<<63 - 1, 1 << 63, most - 1, most}

// numbers returns every Wide whose limbs are among a few telling ones.
func numbers() []api.Wide {
	limbs := []uint64{0, 1, 1 << 63, most}
	list := []api.Wide{}
	for _, a := range limbs {
		for _, b := range limbs {
			for _, c := range limbs {
				for _, d := range limbs {
					list = append(list, api.Wide{a, b, c, d})
				}
			}
		}
	}
	return append(list,
		api.Wide{most - 1, most, most, most},
		api.Wide{1, 2, 3, 4},
		api.Wide{4, 3, 2, 1},
		api.Wide{0x0123456789abcdef, 0xfedcba9876543210, 0x0f1e2d3c4b5a6978, 0x8796a5b4c3d2e1f0},
	)
}

// exact returns the number that a denotes: the sum of its limbs, limb i times 2^(64 i).
func exact(a api.Wide) *big.Int {
	n := new(big.Int)
	for i, limb := range a {
		term := new(big.Int).SetUint64(limb)
		n.Add(n, term.Lsh(term, uint(64*i)))
	}
	return n
}

// want turns an exact result into the one that P2.2 promises for it.
func want(n *big.Int) (api.Wide, api.Errno) {
	if n.Sign() < 0 || n.BitLen() > 256 {
		return api.Wide{}, api.ErrOverflow
	}
	a := api.Wide{}
	mask := new(big.Int).SetUint64(most)
	for i := range a {
		limb := new(big.Int).Rsh(n, uint(64*i))
		a[i] = limb.And(limb, mask).Uint64()
	}
	return a, api.OK
}

// P2.1: a number below 2^64 is its lowest limb.
func TestFromUint64(t *testing.T) {
	for _, n := range factors {
		if got := FromUint64(n); got != (api.Wide{n, 0, 0, 0}) {
			t.Errorf("FromUint64(%d): got %v", n, got)
		}
	}
}

// P2.1: every pair of the numbers, compared with numbers of any size.
func TestCompareIsExact(t *testing.T) {
	for _, a := range numbers() {
		for _, b := range numbers() {
			if got, order := Compare(a, b), exact(a).Cmp(exact(b)); got != order {
				t.Fatalf("Compare(%v, %v): got %d, want %d", a, b, got, order)
			}
		}
	}
}

// P2.1: the higher limb decides, whatever the lower ones are.
func TestCompare(t *testing.T) {
	cases := []struct {
		a, b  api.Wide
		order int
	}{
		{api.Wide{}, api.Wide{}, 0},
		{all, all, 0},
		{api.Wide{1, 2, 3, 4}, api.Wide{1, 2, 3, 4}, 0},
		{api.Wide{1}, api.Wide{2}, -1},
		{api.Wide{most}, api.Wide{0, 1}, -1},
		{api.Wide{most, most}, api.Wide{0, 0, 1}, -1},
		{api.Wide{most, most, most}, api.Wide{0, 0, 0, 1}, -1},
		{api.Wide{most - 1, most, most, most}, all, -1},
		{api.Wide{2, 1}, api.Wide{1, 1}, 1},
		{api.Wide{0, 0, 0, 1 << 63}, api.Wide{0, 0, 0, 1<<63 - 1}, 1},
	}
	for _, c := range cases {
		if got := Compare(c.a, c.b); got != c.order {
			t.Errorf("Compare(%v, %v): got %d, want %d", c.a, c.b, got, c.order)
		}
		if got := Compare(c.b, c.a); got != -c.order {
			t.Errorf("Compare(%v, %v): got %d, want %d", c.b, c.a, got, -c.order)
		}
	}
}

// P2.1: the greatest argument, wherever it stands, and 0 without arguments.
func TestGreatest(t *testing.T) {
	cases := []struct {
		l    []api.Wide
		want api.Wide
	}{
		{nil, api.Wide{}},
		{[]api.Wide{}, api.Wide{}},
		{[]api.Wide{{}}, api.Wide{}},
		{[]api.Wide{{7}}, api.Wide{7}},
		{[]api.Wide{all, {1}, {0, 1}}, all},
		{[]api.Wide{{9}, {0, 1}, {8}}, api.Wide{0, 1}},
		{[]api.Wide{{1}, {2}, {0, 0, 0, 1}}, api.Wide{0, 0, 0, 1}},
		{[]api.Wide{{1, 1}, {2, 1}, {2, 1}}, api.Wide{2, 1}},
	}
	for _, c := range cases {
		if got := Greatest(c.l...); got != c.want {
			t.Errorf("Greatest(%v): got %v, want %v", c.l, got, c.want)
		}
	}
}

// P2.2: every pair of the numbers, compared with numbers of any size.
func TestAddAndSubAreExact(t *testing.T) {
	calls := []struct {
		name  string
		call  func(api.Wide, api.Wide) (api.Wide, api.Errno)
		exact func(z, a, b *big.Int) *big.Int
	}{
		{"Add", Add, (*big.Int).Add},
		{"Sub", Sub, (*big.Int).Sub},
	}
	for _, c := range calls {
		for _, a := range numbers() {
			for _, b := range numbers() {
				n, e := want(c.exact(new(big.Int), exact(a), exact(b)))
				if got, err := c.call(a, b); got != n || err != e {
					t.Fatalf("%s(%v, %v): got %v, %d, want %v, %d", c.name, a, b, got, err, n, e)
				}
			}
		}
	}
}

// P2.2: sums and differences written out by hand.
func TestAddAndSubAtTheirBounds(t *testing.T) {
	cases := []struct {
		name string
		call func(api.Wide, api.Wide) (api.Wide, api.Errno)
		a, b api.Wide
		n    api.Wide
		e    api.Errno
	}{
		{"Add", Add, api.Wide{2}, api.Wide{3}, api.Wide{5}, api.OK},
		{"Add", Add, api.Wide{most}, api.Wide{1}, api.Wide{0, 1}, api.OK},
		{"Add", Add, api.Wide{most, most, most}, api.Wide{1}, api.Wide{0, 0, 0, 1}, api.OK},
		{"Add", Add, all, api.Wide{}, all, api.OK},
		{"Add", Add, api.Wide{most - 1, most, most, most}, api.Wide{1}, all, api.OK},
		{"Add", Add, all, api.Wide{1}, api.Wide{}, api.ErrOverflow},
		{"Add", Add, api.Wide{0, 0, 0, 1 << 63}, api.Wide{5, 0, 0, 1 << 63}, api.Wide{}, api.ErrOverflow},
		{"Add", Add, all, all, api.Wide{}, api.ErrOverflow},
		{"Sub", Sub, api.Wide{7}, api.Wide{3}, api.Wide{4}, api.OK},
		{"Sub", Sub, all, all, api.Wide{}, api.OK},
		{"Sub", Sub, api.Wide{0, 0, 0, 1}, api.Wide{1}, api.Wide{most, most, most}, api.OK},
		{"Sub", Sub, api.Wide{}, api.Wide{1}, api.Wide{}, api.ErrOverflow},
		{"Sub", Sub, api.Wide{most}, api.Wide{0, 1}, api.Wide{}, api.ErrOverflow},
		{"Sub", Sub, api.Wide{most - 1, most, most, most}, all, api.Wide{}, api.ErrOverflow},
	}
	for _, c := range cases {
		if n, e := c.call(c.a, c.b); n != c.n || e != c.e {
			t.Errorf("%s(%v, %v): got %v, %d, want %v, %d", c.name, c.a, c.b, n, e, c.n, c.e)
		}
	}
}

// P2.2: every number times every factor, compared with numbers of any size.
func TestMulSmallIsExact(t *testing.T) {
	for _, a := range numbers() {
		for _, k := range factors {
			product := new(big.Int).SetUint64(k)
			n, e := want(product.Mul(product, exact(a)))
			if got, err := MulSmall(a, k); got != n || err != e {
				t.Fatalf("MulSmall(%v, %d): got %v, %d, want %v, %d", a, k, got, err, n, e)
			}
		}
	}
}

// P2.2: products written out by hand.
func TestMulSmallAtItsBounds(t *testing.T) {
	third := uint64(most / 3)
	cases := []struct {
		a api.Wide
		k uint64
		n api.Wide
		e api.Errno
	}{
		{api.Wide{6}, 7, api.Wide{42}, api.OK},
		{all, 0, api.Wide{}, api.OK},
		{all, 1, all, api.OK},
		{api.Wide{1 << 63, 3}, 4, api.Wide{0, 14}, api.OK},
		{api.Wide{most, most, most}, most, api.Wide{1, most, most, most - 1}, api.OK},
		{api.Wide{third, third, third, third}, 3, all, api.OK},
		{api.Wide{third + 1, third, third, third}, 3, api.Wide{}, api.ErrOverflow},
		{api.Wide{5, 0, 0, 1 << 63}, 2, api.Wide{}, api.ErrOverflow},
		{all, most, api.Wide{}, api.ErrOverflow},
	}
	for _, c := range cases {
		if n, e := MulSmall(c.a, c.k); n != c.n || e != c.e {
			t.Errorf("MulSmall(%v, %d): got %v, %d, want %v, %d", c.a, c.k, n, e, c.n, c.e)
		}
	}
}

// P2.2: every number divided by every factor, compared with numbers of any size.
func TestDivSmallIsExact(t *testing.T) {
	for _, a := range numbers() {
		for _, k := range factors {
			if k == 0 {
				continue
			}
			q, r := new(big.Int).QuoRem(exact(a), new(big.Int).SetUint64(k), new(big.Int))
			quotient, _ := want(q)
			if n, rest, e := DivSmall(a, k); n != quotient || rest != r.Uint64() || e != api.OK {
				t.Fatalf("DivSmall(%v, %d): got %v, %d, %d, want %v, %d", a, k, n, rest, e, quotient, r.Uint64())
			}
		}
	}
}

// P2.2: quotients written out by hand; there is none by 0.
func TestDivSmallAtItsBounds(t *testing.T) {
	cases := []struct {
		a         api.Wide
		k         uint64
		quotient  api.Wide
		remainder uint64
		e         api.Errno
	}{
		{api.Wide{}, 1, api.Wide{}, 0, api.OK},
		{api.Wide{17}, 5, api.Wide{3}, 2, api.OK},
		{api.Wide{6}, 7, api.Wide{}, 6, api.OK},
		{api.Wide{0, 1}, 2, api.Wide{1 << 63}, 0, api.OK},
		{api.Wide{0, 0, 0, 1}, most, api.Wide{1, 1, 1}, 1, api.OK},
		{all, 1, all, 0, api.OK},
		{all, most, api.Wide{1, 1, 1, 1}, 0, api.OK},
		{api.Wide{most - 1, most, most, most}, most, api.Wide{0, 1, 1, 1}, most - 1, api.OK},
		{api.Wide{}, 0, api.Wide{}, 0, api.ErrZero},
		{api.Wide{17}, 0, api.Wide{}, 0, api.ErrZero},
		{all, 0, api.Wide{}, 0, api.ErrZero},
	}
	for _, c := range cases {
		if q, r, e := DivSmall(c.a, c.k); q != c.quotient || r != c.remainder || e != c.e {
			t.Errorf("DivSmall(%v, %d): got %v, %d, %d, want %v, %d, %d", c.a, c.k, q, r, e, c.quotient, c.remainder, c.e)
		}
	}
}

// P2.2: sums of no, one and several numbers; an overflow counts wherever it occurs.
func TestSum(t *testing.T) {
	half := api.Wide{0, 0, 0, 1 << 63}
	below := api.Wide{most, most, most, 1<<63 - 1}
	cases := []struct {
		l []api.Wide
		n api.Wide
		e api.Errno
	}{
		{nil, api.Wide{}, api.OK},
		{[]api.Wide{}, api.Wide{}, api.OK},
		{[]api.Wide{{7, 8}}, api.Wide{7, 8}, api.OK},
		{[]api.Wide{all}, all, api.OK},
		{[]api.Wide{{1}, {2}, {0, 5}}, api.Wide{3, 5}, api.OK},
		{[]api.Wide{{most}, {most}, {2}}, api.Wide{0, 2}, api.OK},
		{[]api.Wide{{}, all, {}}, all, api.OK},
		{[]api.Wide{half, below}, all, api.OK},
		{[]api.Wide{half, below, {1}}, api.Wide{}, api.ErrOverflow},
		{[]api.Wide{half, half, {5}}, api.Wide{}, api.ErrOverflow},
		{[]api.Wide{all, {1}, {}}, api.Wide{}, api.ErrOverflow},
		{[]api.Wide{all, all, all}, api.Wide{}, api.ErrOverflow},
	}
	for _, c := range cases {
		if n, e := Sum(c.l...); n != c.n || e != c.e {
			t.Errorf("Sum(%v): got %v, %d, want %v, %d", c.l, n, e, c.n, c.e)
		}
	}
}

// R2: Sum and Greatest leave their arguments and the spare capacity behind them as they are.
func TestListsStayAsTheyAre(t *testing.T) {
	whole := []api.Wide{{4, 1}, {5, 2}, {6, 3}, {7, 4}}
	if n, e := Sum(whole[:2]...); n != (api.Wide{9, 3}) || e != api.OK {
		t.Errorf("Sum: got %v, %d", n, e)
	}
	if n := Greatest(whole[:2]...); n != (api.Wide{5, 2}) {
		t.Errorf("Greatest: got %v", n)
	}
	if !slices.Equal(whole, []api.Wide{{4, 1}, {5, 2}, {6, 3}, {7, 4}}) {
		t.Errorf("the argument became %v", whole)
	}
}

// P2.3: notations written out by hand.
func TestNotations(t *testing.T) {
	cases := []struct {
		s string
		a api.Wide
	}{
		{"0", api.Wide{}},
		{"7", api.Wide{7}},
		{"10", api.Wide{10}},
		{"9876543210", api.Wide{9876543210}},
		{"18446744073709551615", api.Wide{most}},
		{"18446744073709551616", api.Wide{0, 1}},
		{"340282366920938463463374607431768211456", api.Wide{0, 0, 1}},
		{"6277101735386680763835789423207666416102355444464034512896", api.Wide{0, 0, 0, 1}},
		{greatest[:77] + "4", api.Wide{most - 1, most, most, most}},
		{greatest, all},
	}
	for _, c := range cases {
		if a, e := Parse(c.s); a != c.a || e != api.OK {
			t.Errorf("Parse(%q): got %v, %d, want %v", c.s, a, e, c.a)
		}
		if s := Format(c.a); s != c.s {
			t.Errorf("Format(%v): got %q, want %q", c.a, s, c.s)
		}
	}
}

// P2.3: every number and every power of ten, compared with numbers of any size, and parsed again.
func TestFormatIsExactAndParsedAgain(t *testing.T) {
	list := numbers()
	for power := big.NewInt(1); power.BitLen() <= 256; power.Mul(power, big.NewInt(10)) {
		a, _ := want(power)
		before, _ := want(new(big.Int).Sub(power, big.NewInt(1)))
		list = append(list, a, before)
	}
	for _, a := range list {
		s := Format(a)
		if s != exact(a).String() {
			t.Errorf("Format(%v): got %q, want %q", a, s, exact(a))
		}
		if again, e := Parse(s); again != a || e != api.OK {
			t.Errorf("Parse(%q): got %v, %d, want %v", s, again, e, a)
		}
	}
}

// P2.3: strings that are no notations, also where the digits before the fault are too many for a Wide.
func TestParseOfFaultySyntax(t *testing.T) {
	faulty := []string{
		"", "00", "01", "007", "-1", "-0", "+1", " 1", "1 ", "1\n", "1a", "a1", "0x1", "1_000", "1.0", "1e3",
		"/", ":", "1/", "1:", "\x00", "1\x00", "\xff", "\xb1", "\u0661", "\uff11", "1\u0662",
		strings.Repeat("0", 80),
		strings.Repeat("0", 79) + "1",
		"0" + greatest,
		strings.Repeat("9", 79) + "a",
		strings.Repeat("1", 81),
		strings.Repeat("0", 81),
		strings.Repeat("9", 1000),
	}
	for _, s := range faulty {
		if a, e := Parse(s); a != (api.Wide{}) || e != api.ErrSyntax {
			t.Errorf("Parse(%q): got %v, %d", s, a, e)
		}
	}
}

// P2.3: every byte that is no digit is a fault, at every place.
func TestParseOfEveryByte(t *testing.T) {
	for b := range 256 {
		for place := range 3 {
			s := []byte("123")
			s[place] = byte(b)
			a, e := Parse(string(s))
			isDigit := b >= '1' && b <= '9' || b == '0' && place > 0
			if isDigit && (Format(a) != string(s) || e != api.OK) {
				t.Errorf("Parse(%q): got %v, %d", s, a, e)
			}
			if !isDigit && (a != (api.Wide{}) || e != api.ErrSyntax) {
				t.Errorf("Parse(%q): got %v, %d", s, a, e)
			}
		}
	}
}

// P2.3: notations of numbers above 2^256 - 1, of up to 80 digits.
func TestParseOfGreatNumbers(t *testing.T) {
	great := []string{
		greatest[:77] + "6",
		greatest[:77] + "9",
		strings.Repeat("9", 78),
		"1" + strings.Repeat("0", 78),
		greatest + "0",
		"1" + strings.Repeat("0", 79),
		strings.Repeat("9", 80),
	}
	for _, s := range great {
		if a, e := Parse(s); a != (api.Wide{}) || e != api.ErrOverflow {
			t.Errorf("Parse(%q): got %v, %d", s, a, e)
		}
	}
}

// P2.4: byte i from the end is the byte of weight 256^i, in both directions.
func TestBytesOneByOne(t *testing.T) {
	for i := range 32 {
		a := api.Wide{}
		a[i/8] = 0xa5 << (8 * (i % 8))
		b := [32]byte{}
		b[31-i] = 0xa5
		if got := ToBytes(a); got != b {
			t.Errorf("ToBytes(%v): got %v, want %v", a, got, b)
		}
		if got := FromBytes(b); got != a {
			t.Errorf("FromBytes(%v): got %v, want %v", b, got, a)
		}
	}
}

// P2.4: every number, compared with numbers of any size, and back again.
func TestBytesAreExact(t *testing.T) {
	for _, a := range numbers() {
		b := [32]byte{}
		exact(a).FillBytes(b[:])
		if got := ToBytes(a); got != b {
			t.Errorf("ToBytes(%v): got %v, want %v", a, got, b)
		}
		if got := FromBytes(b); got != a {
			t.Errorf("FromBytes(%v): got %v, want %v", b, got, a)
		}
	}
}
