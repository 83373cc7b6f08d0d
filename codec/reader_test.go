package codec

import (
	"bytes"
	"math"
	"slices"
	"testing"

	"forkhead/api"
)

// reading is one call of a reading method; it reports whether the result was zero.
type reading struct {
	name string
	call func(r *Reader) bool
}

// readings returns calls of every reading method. None fails because of its bound, except where its name says so.
func readings() []reading {
	return []reading{
		{"Uint", func(r *Reader) bool { return r.Uint(most) == 0 }},
		{"Uint of at most 0", func(r *Reader) bool { return r.Uint(0) == 0 }},
		{"Bool", func(r *Reader) bool { return !r.Bool() }},
		{"Root", func(r *Reader) bool { return r.Root() == api.Root{} }},
		{"Wide", func(r *Reader) bool { return r.Wide() == api.Wide{} }},
		{"Checkpoint", func(r *Reader) bool { return r.Checkpoint() == api.Checkpoint{} }},
		{"Bytes", func(r *Reader) bool { return len(r.Bytes(math.MaxInt)) == 0 }},
		{"Bytes of at most -1", func(r *Reader) bool { return len(r.Bytes(-1)) == 0 }},
	}
}

// readingOf returns the call of this name.
func readingOf(t *testing.T, name string) reading {
	t.Helper()
	for _, c := range readings() {
		if c.name == name {
			return c
		}
	}
	t.Fatalf("there is no reading method %q", name)
	return reading{}
}

// checkFailure checks that a call behind skip bytes fails with e, does not move, and that every later call fails as well.
func checkFailure(t *testing.T, c reading, b []byte, e api.Errno) {
	t.Helper()
	for skip := range 3 {
		r := NewReader(append(make([]byte, skip), b...))
		for range skip {
			r.Bool()
		}
		if !c.call(r) || r.Err() != e || r.Rest() != len(b) || r.Close() != e {
			t.Fatalf("%s of %v behind %d bytes: error %d with rest %d, want %d", c.name, b, skip, r.Err(), r.Rest(), e)
		}
		for _, later := range readings() {
			if !later.call(r) || r.Err() != e || r.Rest() != len(b) || r.Close() != e {
				t.Fatalf("%s after %s of %v: error %d with rest %d", later.name, c.name, b, r.Err(), r.Rest())
			}
		}
	}
}

// checkEnd checks that r has read all but rest bytes, without an error.
func checkEnd(t *testing.T, r *Reader, rest int) {
	t.Helper()
	want := api.OK
	if rest > 0 {
		want = api.ErrForm
	}
	if r.Err() != api.OK || r.Rest() != rest || r.Close() != want {
		t.Fatalf("error %d with rest %d, want OK with rest %d", r.Err(), r.Rest(), rest)
	}
}

// P4.3: numbers of every length, with bounds at and above them.
func TestUint(t *testing.T) {
	for _, n := range numbers() {
		for _, bound := range []uint64{n, max(n, n+1), most} {
			r := NewReader(append(AppendUint(nil, n), 77))
			if got := r.Uint(bound); got != n {
				t.Fatalf("Uint(%d): got %d, want %d", bound, got, n)
			}
			checkEnd(t, r, 1)
		}
	}
}

// P4.3: numbers above the bound; the bound is checked before anything behind the number.
func TestUintAboveItsBound(t *testing.T) {
	for _, n := range numbers() {
		if n == 0 {
			continue
		}
		for _, bound := range []uint64{0, n / 2, n - 1} {
			c := reading{"Uint", func(r *Reader) bool { return r.Uint(bound) == 0 }}
			checkFailure(t, c, AppendUint(nil, n), api.ErrRange)
			checkFailure(t, c, append(AppendUint(nil, n), 128), api.ErrRange)
		}
	}
}

// P4.3: faulty numbers, for every method that begins with a number; neither bound makes a difference.
func TestFaultyNumbers(t *testing.T) {
	cases := []struct {
		b []byte
		e api.Errno
	}{
		{nil, api.ErrCut},
		{[]byte{128}, api.ErrCut},
		{[]byte{255}, api.ErrCut},
		{filled(9, 128), api.ErrCut},
		{filled(9, 255), api.ErrCut},
		{filled(10, 128), api.ErrForm},
		{filled(10, 255), api.ErrForm},
		{append(filled(10, 128), 0), api.ErrForm},
		{append(filled(10, 128), 1), api.ErrForm},
		{filled(40, 255), api.ErrForm},
		{[]byte{128, 0}, api.ErrForm},
		{[]byte{129, 0}, api.ErrForm},
		{[]byte{139, 0}, api.ErrForm},
		{[]byte{128, 128, 0}, api.ErrForm},
		{[]byte{255, 255, 0}, api.ErrForm},
		{append(filled(8, 255), 0), api.ErrForm},
		{append(filled(9, 128), 0), api.ErrForm},
		{append(filled(9, 255), 0), api.ErrForm},
		{append(filled(9, 128), 2), api.ErrForm},
		{append(filled(9, 255), 2), api.ErrForm},
		{append(filled(9, 255), 3), api.ErrForm},
		{append(filled(9, 128), 64), api.ErrForm},
		{append(filled(9, 255), 127), api.ErrForm},
		{append([]byte{128, 0}, make([]byte, 40)...), api.ErrForm},
	}
	for _, c := range cases {
		for _, name := range []string{"Uint", "Uint of at most 0", "Checkpoint", "Bytes", "Bytes of at most -1"} {
			checkFailure(t, readingOf(t, name), c.b, c.e)
		}
	}
}

// P4.3: all strings of up to four bytes at which something can change: a number is read exactly if the bytes are its
// encoding and what follows.
func TestShortNumbers(t *testing.T) {
	level := [][]byte{{}}
	for range 5 {
		next := [][]byte{}
		for _, b := range level {
			checkShortNumber(t, b)
			for _, x := range []byte{0, 1, 2, 127, 128, 129, 255} {
				next = append(next, append(slices.Clone(b), x))
			}
		}
		level = next
	}
}

func checkShortNumber(t *testing.T, b []byte) {
	t.Helper()
	last := slices.IndexFunc(b, func(x byte) bool { return x < 128 })
	if last < 0 {
		checkFailure(t, readingOf(t, "Uint"), b, api.ErrCut)
		return
	}
	n := uint64(0)
	for i := last; i >= 0; i-- {
		n = n*128 + uint64(b[i]%128)
	}
	if !bytes.Equal(AppendUint(nil, n), b[:last+1]) {
		checkFailure(t, readingOf(t, "Uint"), b, api.ErrForm)
		return
	}
	r := NewReader(b)
	if got := r.Uint(most); got != n {
		t.Fatalf("Uint of %v: got %d, want %d", b, got, n)
	}
	checkEnd(t, r, len(b)-last-1)
}

// P4.3: a bool is a byte 0 or 1; there is no other one.
func TestBool(t *testing.T) {
	for x := range 256 {
		b := []byte{byte(x), 2}
		if x > 1 {
			checkFailure(t, readingOf(t, "Bool"), b, api.ErrForm)
			checkFailure(t, readingOf(t, "Bool"), b[:1], api.ErrForm)
			continue
		}
		r := NewReader(b)
		if got := r.Bool(); got != (x == 1) {
			t.Errorf("Bool of %d: got %v", x, got)
		}
		checkEnd(t, r, 1)
	}
	checkFailure(t, readingOf(t, "Bool"), nil, api.ErrCut)
}

// P4.3: roots and 256-bit numbers, byte by byte, and all shorter strings.
func TestWords(t *testing.T) {
	for i := range 32 {
		b := make([]byte, 33)
		b[i], b[32] = 0xa5, 77
		r := NewReader(b)
		if got := r.Root(); got != api.Root(b[:32]) {
			t.Errorf("Root of %v: got %v", b, got)
		}
		checkEnd(t, r, 1)
		a := api.Wide{}
		a[3-i/8] = 0xa5 << (8 * (7 - i%8))
		r = NewReader(b)
		if got := r.Wide(); got != a {
			t.Errorf("Wide of %v: got %v", b, got)
		}
		checkEnd(t, r, 1)
		checkFailure(t, readingOf(t, "Root"), filled(i, 255), api.ErrCut)
		checkFailure(t, readingOf(t, "Wide"), filled(i, 255), api.ErrCut)
	}
}

// P4.3: checkpoints with epochs of every length, and all shorter strings; a checkpoint that is cut is not read in part.
func TestCheckpoint(t *testing.T) {
	for _, n := range numbers() {
		c := api.Checkpoint{Epoch: n, Root: mixed}
		b := AppendCheckpoint(nil, c)
		r := NewReader(append(b, 77))
		if got := r.Checkpoint(); got != c {
			t.Errorf("got %v, want %v", got, c)
		}
		checkEnd(t, r, 1)
		for i := range b {
			checkFailure(t, readingOf(t, "Checkpoint"), b[:i], api.ErrCut)
		}
	}
}

// P4.3: lengths below and at the bound.
func TestBytes(t *testing.T) {
	for _, n := range []int{0, 1, 2, 127, 128, 300, 1 << 14} {
		x := make([]byte, n)
		for i := range x {
			x[i] = byte(i*7 + 1)
		}
		for _, bound := range []int{n, n + 1, math.MaxInt} {
			r := NewReader(append(AppendBytes(nil, x), 77))
			if got := r.Bytes(bound); !bytes.Equal(got, x) {
				t.Errorf("Bytes(%d) of length %d: got %v", bound, n, got)
			}
			checkEnd(t, r, 1)
		}
	}
}

// P4.3: lengths above the bound and bytes that are cut; the bound comes first.
func TestFaultyBytes(t *testing.T) {
	cases := []struct {
		b     []byte
		bound int
		e     api.Errno
	}{
		{[]byte{2, 1, 1}, 1, api.ErrRange},
		{[]byte{1, 1}, 0, api.ErrRange},
		{[]byte{9, 1, 1}, 5, api.ErrRange},
		{[]byte{9}, 8, api.ErrRange},
		{[]byte{172, 2}, 299, api.ErrRange},
		{[]byte{0}, -1, api.ErrRange},
		{[]byte{1, 1}, -1, api.ErrRange},
		{[]byte{5, 1}, -1, api.ErrRange},
		{[]byte{0}, math.MinInt, api.ErrRange},
		{[]byte{0, 0}, -2, api.ErrRange},
		{AppendUint(nil, most), -1, api.ErrRange},
		{AppendUint(nil, most), math.MaxInt, api.ErrRange},
		{AppendUint(nil, 1<<63), math.MinInt, api.ErrRange},
		{AppendUint(nil, 1<<63), math.MaxInt, api.ErrRange},
		{AppendUint(nil, 1<<32), 0, api.ErrRange},
		{AppendUint(nil, math.MaxInt), math.MaxInt, api.ErrCut},
		{[]byte{9, 1, 1}, 9, api.ErrCut},
		{[]byte{3, 1, 1}, 5, api.ErrCut},
		{[]byte{1}, 1, api.ErrCut},
		{append([]byte{172, 2}, make([]byte, 299)...), 300, api.ErrCut},
		{nil, -1, api.ErrCut},
		{nil, 0, api.ErrCut},
		{[]byte{128}, -1, api.ErrCut},
		{[]byte{128}, 0, api.ErrCut},
		{[]byte{128, 0}, -1, api.ErrForm},
		{[]byte{137, 0}, 5, api.ErrForm},
	}
	for _, c := range cases {
		call := reading{"Bytes", func(r *Reader) bool { return len(r.Bytes(c.bound)) == 0 }}
		checkFailure(t, call, c.b, c.e)
	}
}

// P4.3: a sequence of all encodings is read in its order, and Rest tells how far it has been read.
func TestSequence(t *testing.T) {
	b := AppendBool(AppendUint(nil, 300), true)
	b = AppendWide(AppendRoot(b, mixed), mixedWide)
	b = AppendBytes(AppendCheckpoint(b, api.Checkpoint{Epoch: 128, Root: api.Root{8}}), []byte("xyz"))
	b = AppendUint(AppendBytes(AppendBool(b, false), nil), most)
	r := NewReader(b)
	rest := len(b)
	step := func(ok bool, size int) {
		t.Helper()
		if !ok {
			t.Error("another value")
		}
		rest -= size
		checkEnd(t, r, rest)
	}
	step(r.Uint(300) == 300, 2)
	step(r.Bool(), 1)
	step(r.Root() == mixed, 32)
	step(r.Wide() == mixedWide, 32)
	step(r.Checkpoint() == api.Checkpoint{Epoch: 128, Root: api.Root{8}}, 34)
	step(string(r.Bytes(3)) == "xyz", 4)
	step(!r.Bool(), 1)
	step(len(r.Bytes(0)) == 0, 1)
	step(r.Uint(most) == most, 10)
	if rest != 0 {
		t.Errorf("%d bytes are left", rest)
	}
}

// P4.3: after the end every method fails, and the first error remains although later calls would have another one.
func TestFirstErrorIsKept(t *testing.T) {
	for _, c := range readings() {
		checkFailure(t, c, nil, api.ErrCut)
	}
	r := NewReader([]byte{5, 1, 2, 3, 4, 5})
	if r.Uint(4) != 0 || r.Err() != api.ErrRange {
		t.Errorf("got error %d", r.Err())
	}
	// Without the error, each of these calls would give a value.
	if r.Uint(5) != 0 || r.Bytes(5) != nil || r.Rest() != 6 || r.Err() != api.ErrRange || r.Close() != api.ErrRange {
		t.Errorf("got error %d with rest %d", r.Err(), r.Rest())
	}
	r = NewReader([]byte{3, 1})
	if r.Bool() || r.Err() != api.ErrForm {
		t.Errorf("got error %d", r.Err())
	}
	if r.Root() != (api.Root{}) || r.Uint(1) != 0 || r.Err() != api.ErrForm {
		t.Errorf("got error %d", r.Err())
	}
}

// P4.4: a new reader has read nothing; Close tells whether all has been read and changes nothing.
func TestClose(t *testing.T) {
	checkEnd(t, NewReader(nil), 0)
	checkEnd(t, NewReader([]byte{}), 0)
	checkEnd(t, NewReader([]byte{128}), 1)
	checkEnd(t, NewReader(make([]byte, 1000)), 1000)
	r := NewReader([]byte{1, 7})
	for range 3 {
		if r.Close() != api.ErrForm || r.Err() != api.OK || r.Rest() != 2 {
			t.Fatalf("got %d, %d, %d", r.Close(), r.Err(), r.Rest())
		}
	}
	if !r.Bool() || r.Close() != api.ErrForm || r.Uint(7) != 7 || r.Close() != api.OK {
		t.Error("reading goes on after Close")
	}
	if r.Bool() || r.Close() != api.ErrCut || r.Err() != api.ErrCut || r.Rest() != 0 {
		t.Errorf("got %d, %d, %d", r.Close(), r.Err(), r.Rest())
	}
}

// P4.4: the kept error comes before the one of a rest.
func TestCloseAfterAnError(t *testing.T) {
	r := NewReader([]byte{9, 9})
	if r.Uint(8) != 0 || r.Close() != api.ErrRange || r.Err() != api.ErrRange || r.Rest() != 2 {
		t.Errorf("got %d, %d, %d", r.Close(), r.Err(), r.Rest())
	}
}

// R2: a reader keeps no part of its argument, and leaves it and its spare capacity as they are.
func TestReaderCopiesItsArgument(t *testing.T) {
	whole := append(AppendBytes(AppendRoot(nil, mixed), []byte("xyz")), 88, 99)
	before := slices.Clone(whole)
	r := NewReader(whole[:36])
	other := NewReader(whole[:36])
	for i := range whole {
		whole[i] = 0
	}
	if r.Root() != mixed || string(r.Bytes(3)) != "xyz" {
		t.Error("the reader changes with its argument")
	}
	checkEnd(t, r, 0)
	checkEnd(t, other, 36)
	copy(whole, before)
	if other.Root() != mixed || string(other.Bytes(3)) != "xyz" || !bytes.Equal(whole, before) {
		t.Errorf("the argument became %v", whole)
	}
}

// R2: what Bytes returns is new memory: changing it, or what stands behind it, changes nothing of the reader.
func TestBytesReturnsNewMemory(t *testing.T) {
	b := AppendBytes(AppendBytes(AppendBytes(nil, []byte("abc")), nil), []byte("de"))
	r := NewReader(b)
	first := r.Bytes(3)
	first[0] = 'z'
	_ = append(first, 200, 200, 200)
	empty := r.Bytes(3)
	_ = append(empty, 200, 200, 200)
	second := r.Bytes(3)
	if string(first) != "zbc" || len(empty) != 0 || string(second) != "de" {
		t.Errorf("got %q, %q, %q", first, empty, second)
	}
	checkEnd(t, r, 0)
	if want := []byte{3, 'a', 'b', 'c', 0, 2, 'd', 'e'}; !bytes.Equal(b, want) {
		t.Errorf("the argument became %v", b)
	}
}
