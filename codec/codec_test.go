package codec

import (
	"bytes"
	"encoding/binary"
	"math"
	"slices"
	"testing"

	"forkhead/api"
	"forkhead/wide"
)

// most is the greatest number.
const most = math.MaxUint64

// mixed has different bytes everywhere.
var mixed = api.Root{
	0x01, 0x23, 0x45, 0x67, 0x89, 0xab, 0xcd, 0xef, 0xfe, 0xdc, 0xba, 0x98, 0x76, 0x54, 0x32, 0x10,
	0x00, 0x11, 0x22, 0x33, 0x44, 0x55, 0x66, 0x77, 0x88, 0x99, 0xaa, 0xbb, 0xcc, 0xdd, 0xee, 0xff,
}

// mixedWide is the number whose bytes, the most significant one first, are those of mixed.
var mixedWide = api.Wide{0x8899aabbccddeeff, 0x0011223344556677, 0xfedcba9876543210, 0x0123456789abcdef}

// numbers returns the numbers around which the number of groups changes, and some more.
func numbers() []uint64 {
	list := []uint64{0, 1, 2, 3, 10, 11, 300, 1 << 32, api.MaxSlot, api.MaxTotal, most / 3, most - 1, most}
	for bits := 1; bits < 64; bits++ {
		list = append(list, 1<<bits-1, 1<<bits, 1<<bits+1)
	}
	return list
}

// filled returns n bytes, all of them x.
func filled(n int, x byte) []byte {
	return bytes.Repeat([]byte{x}, n)
}

// appends are the Append functions, each with an argument and its encoding.
func appends() []struct {
	name string
	call func(b []byte) []byte
	want []byte
} {
	return []struct {
		name string
		call func(b []byte) []byte
		want []byte
	}{
		{"AppendUint", func(b []byte) []byte { return AppendUint(b, 5) }, []byte{5}},
		{"AppendUint", func(b []byte) []byte { return AppendUint(b, 300) }, []byte{172, 2}},
		{"AppendBool", func(b []byte) []byte { return AppendBool(b, true) }, []byte{1}},
		{"AppendBool", func(b []byte) []byte { return AppendBool(b, false) }, []byte{0}},
		{"AppendRoot", func(b []byte) []byte { return AppendRoot(b, mixed) }, mixed[:]},
		{"AppendWide", func(b []byte) []byte { return AppendWide(b, mixedWide) }, mixed[:]},
		{
			"AppendCheckpoint",
			func(b []byte) []byte { return AppendCheckpoint(b, api.Checkpoint{Epoch: 300, Root: mixed}) },
			append([]byte{172, 2}, mixed[:]...),
		},
		{"AppendBytes", func(b []byte) []byte { return AppendBytes(b, []byte("ab")) }, []byte{2, 'a', 'b'}},
		{"AppendBytes", func(b []byte) []byte { return AppendBytes(b, nil) }, []byte{0}},
		{"AppendBytes", func(b []byte) []byte { return AppendBytes(b, []byte{}) }, []byte{0}},
	}
}

// P4.1: numbers written out by hand.
func TestAppendUint(t *testing.T) {
	cases := []struct {
		n    uint64
		want []byte
	}{
		{0, []byte{0}},
		{1, []byte{1}},
		{127, []byte{127}},
		{128, []byte{128, 1}},
		{129, []byte{129, 1}},
		{255, []byte{255, 1}},
		{256, []byte{128, 2}},
		{300, []byte{172, 2}},
		{1<<14 - 1, []byte{255, 127}},
		{1 << 14, []byte{128, 128, 1}},
		{1 << 32, []byte{128, 128, 128, 128, 16}},
		{1<<63 - 1, append(filled(8, 255), 127)},
		{1 << 63, append(filled(9, 128), 1)},
		{most, append(filled(9, 255), 1)},
	}
	for _, c := range cases {
		if got := AppendUint(nil, c.n); !bytes.Equal(got, c.want) {
			t.Errorf("AppendUint(nil, %d): got %v, want %v", c.n, got, c.want)
		}
	}
}

// P4.1: numbers of every length, compared with the encoding of the standard library, which is the same.
func TestAppendUintOfEveryLength(t *testing.T) {
	for _, n := range numbers() {
		if got, want := AppendUint(nil, n), binary.AppendUvarint(nil, n); !bytes.Equal(got, want) {
			t.Errorf("AppendUint(nil, %d): got %v, want %v", n, got, want)
		}
	}
}

// P4.1: every byte of a root and every limb of a number has its place.
func TestAppendWords(t *testing.T) {
	for i := range 32 {
		want := make([]byte, 32)
		want[i] = 0xa5
		if got := AppendRoot(nil, api.Root(want)); !bytes.Equal(got, want) {
			t.Errorf("AppendRoot: got %v, want %v", got, want)
		}
		a := api.Wide{}
		a[3-i/8] = 0xa5 << (8 * (7 - i%8))
		if got := AppendWide(nil, a); !bytes.Equal(got, want) {
			t.Errorf("AppendWide(%v): got %v, want %v", a, got, want)
		}
		if word := wide.ToBytes(a); !bytes.Equal(AppendWide(nil, a), word[:]) {
			t.Errorf("AppendWide(%v) is not as in wide.ToBytes", a)
		}
	}
}

// P4.1: the epoch of a checkpoint has as many groups as it needs, and the root follows it.
func TestAppendCheckpoint(t *testing.T) {
	for _, n := range numbers() {
		want := append(binary.AppendUvarint([]byte{7}, n), mixed[:]...)
		if got := AppendCheckpoint([]byte{7}, api.Checkpoint{Epoch: n, Root: mixed}); !bytes.Equal(got, want) {
			t.Errorf("epoch %d: got %v, want %v", n, got, want)
		}
	}
}

// P4.1: lengths of one, two and three groups.
func TestAppendBytes(t *testing.T) {
	for _, n := range []int{0, 1, 2, 127, 128, 129, 300, 1<<14 - 1, 1 << 14, 1 << 16} {
		x := make([]byte, n)
		for i := range x {
			x[i] = byte(i * 7)
		}
		want := append(binary.AppendUvarint([]byte{7, 8}, uint64(n)), x...)
		if got := AppendBytes([]byte{7, 8}, x); !bytes.Equal(got, want) {
			t.Errorf("length %d: got %v", n, got)
		}
	}
	b := []byte{3, 4}
	if got := AppendBytes(b, b); !bytes.Equal(got, []byte{3, 4, 2, 3, 4}) || !bytes.Equal(b, []byte{3, 4}) {
		t.Errorf("bytes behind themselves: got %v, %v", got, b)
	}
}

// P4.1: every function keeps what stands before its encoding.
func TestAppendsKeepTheBeginning(t *testing.T) {
	for _, c := range appends() {
		for _, b := range [][]byte{nil, {}, {9}, {0, 255, 128}, filled(1000, 6)} {
			want := slices.Concat(b, c.want)
			if got := c.call(b); !bytes.Equal(got, want) {
				t.Errorf("%s: got %v, want %v", c.name, got, want)
			}
		}
	}
}

// R2: the spare capacity stays as it is, and results share memory neither with arguments nor with each other.
func TestAppendsReturnNewMemory(t *testing.T) {
	for _, c := range appends() {
		whole := filled(200, 9)
		b := whole[:3]
		first, second := c.call(b), c.call(b)
		for i := range first {
			first[i] = 77
		}
		_ = append(first, filled(10, 77)...)
		if !bytes.Equal(whole, filled(200, 9)) {
			t.Errorf("%s: the argument became %v", c.name, whole)
		}
		if want := slices.Concat(filled(3, 9), c.want); !bytes.Equal(second, want) {
			t.Errorf("%s: the other result became %v", c.name, second)
		}
		whole[0] = 1
		if second[0] != 9 {
			t.Errorf("%s: the result changes with the argument", c.name)
		}
	}
	x := []byte("ab")
	got := AppendBytes(nil, x)
	x[0], got[2] = 'c', 'd'
	if string(x) != "cb" || !bytes.Equal(got, []byte{2, 'a', 'd'}) {
		t.Errorf("AppendBytes shares its bytes: %v, %v", x, got)
	}
}

// checksum is the one of P4.2 by formulas: s counts every byte, and t counts byte i once for it and each byte behind it.
// Below 2^24 bytes neither number wraps around before it is reduced.
func checksum(b []byte) uint64 {
	s, t := uint64(1), uint64(len(b))
	for i, x := range b {
		s += uint64(x) + 1
		t += uint64(len(b)-i) * (uint64(x) + 1)
	}
	return t%(1<<32-1)<<32 + s%(1<<32-1)
}

// P4.2: sums written out by hand.
func TestChecksum(t *testing.T) {
	cases := []struct {
		b    []byte
		s, t uint64
	}{
		{nil, 1, 0},
		{[]byte{}, 1, 0},
		{[]byte{0}, 2, 2},
		{[]byte{1}, 3, 3},
		{[]byte{255}, 257, 257},
		{[]byte{0, 0}, 3, 5},
		{[]byte{1, 2}, 6, 9},
		{[]byte{2, 1}, 6, 10},
		{[]byte{255, 0, 255}, 514, 1029},
	}
	for _, c := range cases {
		if n := Checksum(c.b); n != c.t<<32+c.s {
			t.Errorf("Checksum(%v): got %d, %d, want %d, %d", c.b, n>>32, n&(1<<32-1), c.t, c.s)
		}
	}
}

// P4.2: strings of every length up to one for which t is reduced several times.
func TestChecksumIsExact(t *testing.T) {
	b := []byte{}
	for i := range 20000 {
		b = append(b, byte(i*i+i/256))
		if i < 300 || i%97 == 0 {
			if got, want := Checksum(b), checksum(b); got != want {
				t.Fatalf("%d bytes: got %x, want %x", len(b), got, want)
			}
		}
	}
}

// P4.2: a sum that reaches 2^32 - 1 exactly becomes 0.
func TestChecksumAtTheModulus(t *testing.T) {
	b := append(filled(1<<24-1, 255), 253)
	if n := Checksum(b); n&(1<<32-1) != 0 || n != checksum(b) {
		t.Errorf("s: got %x, want %x", n, checksum(b))
	}
	b[len(b)-1] = 252
	if n := Checksum(b); n&(1<<32-1) != 1<<32-2 || n != checksum(b) {
		t.Errorf("s: got %x, want %x", n, checksum(b))
	}
	b[len(b)-1] = 255
	if n := Checksum(b); n&(1<<32-1) != 2 || n != checksum(b) {
		t.Errorf("s: got %x, want %x", n, checksum(b))
	}
	b = make([]byte, 6000)
	missing := 1<<32 - 1 - checksum(b)>>32
	for i := range b {
		x := min(255, missing/uint64(len(b)-i))
		b[i] = byte(x)
		missing -= x * uint64(len(b)-i)
	}
	if n := Checksum(b); missing != 0 || n>>32 != 0 || n != checksum(b) {
		t.Errorf("t: got %x, want %x, %d missing", n, checksum(b), missing)
	}
}

// R2: Checksum reads neither more nor less than its argument and leaves it as it is.
func TestChecksumLeavesItsArgument(t *testing.T) {
	whole := []byte{1, 2, 9, 9}
	if n := Checksum(whole[:2]); n != 9<<32+6 {
		t.Errorf("got %x", n)
	}
	if !bytes.Equal(whole, []byte{1, 2, 9, 9}) {
		t.Errorf("the argument became %v", whole)
	}
}
