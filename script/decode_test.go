package script

import (
	"bytes"
	"encoding/binary"
	"math/rand"
	"slices"
	"testing"

	"forkhead/api"
	"forkhead/records"
)

// checkDecoded checks that b is the encoding of the operations, for both functions.
func checkDecoded(t *testing.T, b []byte, want ...api.Op) {
	t.Helper()
	before := bytes.Clone(b)
	l, e := Decode(b)
	if e != api.OK || text(l...) != text(want...) {
		t.Fatalf("%v: got %s, %d, want %s", b, text(l...), e, text(want...))
	}
	checkPrefix(t, b, len(b), want...)
	if !bytes.Equal(b, before) {
		t.Fatalf("the argument %v became %v", before, b)
	}
}

// checkPrefix checks that the first size bytes of b, and no more, can be decoded as these operations.
func checkPrefix(t *testing.T, b []byte, size int, want ...api.Op) {
	t.Helper()
	l, used := Prefix(b)
	if used != size || text(l...) != text(want...) {
		t.Fatalf("%v: got the prefix %s, %d, want %s, %d", b, text(l...), used, text(want...), size)
	}
}

// checkRefused checks that b cannot be decoded because of e, which is the error of an operation behind these ones.
func checkRefused(t *testing.T, b []byte, e api.Errno, want ...api.Op) {
	t.Helper()
	if l, err := Decode(b); err != e || len(l) != 0 {
		t.Fatalf("%v: got %s, %d, want error %d", b, text(l...), err, e)
	}
	checkPrefix(t, b, len(joined(t, want...)), want...)
}

// P6.3, P6.4: encodings give the operations.
func TestDecode(t *testing.T) {
	checkDecoded(t, nil)
	checkDecoded(t, []byte{})
	checkDecoded(t, []byte{1, 8, 2, 5}, tick(), crash(2, 5))
	all := samples()
	for _, x := range all {
		checkDecoded(t, bytesOf(t, x), x)
		for _, next := range ofEachKind() {
			checkDecoded(t, joined(t, x, next), x, next)
		}
	}
	for range 2 {
		checkDecoded(t, joined(t, all...), all...)
		slices.Reverse(all)
	}
}

// P6.3: Decode(Encode(l...)) is l; unused lists that were empty count as nil ones.
func TestDecodeEncode(t *testing.T) {
	random := rand.New(rand.NewSource(1))
	all := samples()
	for range 200 {
		l := []api.Op{}
		for range random.Intn(6) {
			l = append(l, withEmptyLists(all[random.Intn(len(all))]))
		}
		b, e := Encode(l...)
		if e != api.OK {
			t.Fatalf("%s: got %d", text(l...), e)
		}
		checkDecoded(t, b, l...)
	}
}

// fault is the encoding of a faulty operation, which has no faultless beginning, and its error.
type fault struct {
	b []byte
	e api.Errno
}

// faults returns faulty encodings of the kind and of each kind of field.
func faults() []fault {
	many := func(x byte, n int) []byte { return bytes.Repeat([]byte{x}, n) }
	l := []fault{
		{[]byte{0}, api.ErrForm},
		{[]byte{0, 1}, api.ErrForm},
		{[]byte{9}, api.ErrRange},
		{[]byte{127}, api.ErrRange},
		{binary.AppendUvarint(nil, 1<<32+api.OpTick), api.ErrRange},
		{binary.AppendUvarint(nil, most), api.ErrRange},
		{[]byte{128}, api.ErrCut},
		{many(255, 9), api.ErrCut},
		{many(255, 10), api.ErrForm},
		{many(255, 300), api.ErrForm},
		{append(many(255, 9), 2), api.ErrForm},
		{append(many(128, 9), 2), api.ErrForm},
		{[]byte{128, 0}, api.ErrForm},
		{[]byte{129, 0}, api.ErrForm},
		{[]byte{136, 0, 1, 1}, api.ErrForm},
		{[]byte{137, 0}, api.ErrForm},
		{[]byte{8}, api.ErrCut},
		{[]byte{8, 2}, api.ErrCut},
		{[]byte{8, 2, 128}, api.ErrCut},
		{[]byte{8, 128}, api.ErrCut},
		{[]byte{8, 129, 128, 2}, api.ErrRange},
		{[]byte{8, 129, 128, 2, 0}, api.ErrRange},
		{[]byte{8, 129, 128, 2, 128, 0}, api.ErrRange},
		{[]byte{8, 0, 129, 128, 2}, api.ErrRange},
		{[]byte{8, 128, 0, 129, 128, 2}, api.ErrForm},
		{[]byte{8, 128, 128, 2, 130, 0}, api.ErrForm},
		{append([]byte{8, 0}, many(255, 30)...), api.ErrForm},
		{append([]byte{8, 128, 128, 2}, many(255, 9)...), api.ErrCut},
		{append([]byte{8}, binary.AppendUvarint(nil, most)...), api.ErrRange},
		{append([]byte{8, 0}, binary.AppendUvarint(nil, 1<<32)...), api.ErrRange},
	}
	for kind := api.OpBlock; kind <= api.OpVerdict; kind++ {
		l = append(l, fault{[]byte{byte(kind)}, api.ErrCut}, fault{[]byte{byte(kind), 128, 0}, api.ErrForm})
	}
	zeros := func(n int) []byte { return make([]byte, n) }
	return append(l,
		fault{slices.Concat([]byte{api.OpBlock}, zeros(293), []byte{2}), api.ErrForm},
		fault{slices.Concat([]byte{api.OpAttestation}, zeros(67)), api.ErrForm},
		fault{slices.Concat([]byte{api.OpAttestation}, zeros(66), []byte{1, 128, 8}), api.ErrForm},
		fault{slices.Concat([]byte{api.OpAttestation}, zeros(66), []byte{1, 129, 8}), api.ErrRange},
		fault{slices.Concat([]byte{api.OpSlashing}, zeros(35)), api.ErrCut},
		fault{slices.Concat([]byte{api.OpSlashing}, zeros(70)), api.ErrForm},
		fault{slices.Concat([]byte{api.OpSlashing}, zeros(34), []byte{129, 8}), api.ErrRange},
		fault{slices.Concat([]byte{api.OpTable}, zeros(33), []byte{129, 8}), api.ErrRange},
		fault{slices.Concat([]byte{api.OpTable}, zeros(33), []byte{3, 1, 1}), api.ErrCut},
		fault{slices.Concat([]byte{api.OpVerdict}, zeros(34)), api.ErrForm},
		fault{slices.Concat([]byte{api.OpVerdict, 0, 5}, zeros(32)), api.ErrRange},
	)
}

// P6.3, P6.4: the first faulty operation counts, at the beginning and behind others, whatever follows.
func TestDecodeFaults(t *testing.T) {
	for _, f := range faults() {
		checkRefused(t, f.b, f.e)
		for _, x := range samples() {
			checkRefused(t, append(bytesOf(t, x), f.b...), f.e, x)
		}
		all := ofEachKind()
		checkRefused(t, append(joined(t, all...), f.b...), f.e, all...)
		if f.e == api.ErrCut {
			continue // with more bytes it is another encoding
		}
		for _, next := range faults() {
			checkRefused(t, slices.Concat([]byte{1}, f.b, next.b), f.e, tick())
		}
	}
}

// P6.3: every number as a kind, in front of bytes that are no part of it.
func TestDecodeKinds(t *testing.T) {
	for kind := range uint64(1000) {
		b := binary.AppendUvarint(nil, kind)
		switch {
		case kind == api.OpNone:
			checkRefused(t, b, api.ErrForm)
		case kind == api.OpTick || kind == api.OpSnapshot:
			checkDecoded(t, b, api.Op{Kind: int(kind)})
		case kind <= api.OpCrash:
			checkRefused(t, b, api.ErrCut)
		default:
			checkRefused(t, b, api.ErrRange)
			checkRefused(t, append(b, 0), api.ErrRange)
		}
	}
}

// P6.3: the error of a field is that of the Decode function, for bytes at random and for cut or changed records.
func TestDecodeFieldErrors(t *testing.T) {
	random := rand.New(rand.NewSource(2))
	for _, x := range ofEachKind() {
		field, _ := fieldOf(x)
		for range 300 {
			b := append(bytes.Clone(field), 0)
			for range 1 + random.Intn(3) {
				b[random.Intn(len(b))] = byte(random.Intn(256))
			}
			b = b[:random.Intn(len(b)+1)]
			e := fieldError(x.Kind, b)
			if e == api.OK {
				continue
			}
			checkRefused(t, slices.Concat([]byte{7, byte(x.Kind)}, b), e, snapshot())
		}
	}
}

// fieldError returns the error of the Decode function of a field, OK for the kinds without a record.
func fieldError(kind int, b []byte) (e api.Errno) {
	switch kind {
	case api.OpBlock:
		_, _, e = records.DecodeBlock(b)
	case api.OpAttestation:
		_, _, e = records.DecodeAttestation(b)
	case api.OpSlashing:
		_, _, e = records.DecodeSlashing(b)
	case api.OpTable:
		_, _, e = records.DecodeTable(b)
	case api.OpVerdict:
		_, _, e = records.DecodeVerdict(b)
	}
	return e
}

// P6.3, P6.4: no more than MaxOps operations are decoded; a further one is refused before it is read.
func TestDecodeManyOps(t *testing.T) {
	l := slices.Repeat([]api.Op{tick()}, api.MaxOps)
	b := joined(t, l...)
	checkDecoded(t, b[1:], l[1:]...)
	checkDecoded(t, b, l...)
	checkRefused(t, slices.Concat(b, b), api.ErrFull, l...)
	mixed := append(l[1:], attestation([]int{3, 4}))
	checkDecoded(t, joined(t, mixed...), mixed...)
	behind := faults()
	for _, x := range ofEachKind() {
		behind = append(behind, fault{bytesOf(t, x), api.OK})
	}
	for _, f := range behind {
		checkCounts(t, slices.Concat(b, f.b), api.ErrFull, 0, api.MaxOps)
		if f.e == api.OK {
			checkCounts(t, slices.Concat(b[1:], f.b), api.OK, api.MaxOps, api.MaxOps)
		} else {
			checkCounts(t, slices.Concat(b[1:], f.b), f.e, 0, api.MaxOps-1)
		}
	}
}

// checkCounts checks the error of Decode, and how many operations it and Prefix give.
func checkCounts(t *testing.T, b []byte, e api.Errno, decoded, prefix int) {
	t.Helper()
	l, err := Decode(b)
	p, used := Prefix(b)
	if err != e || len(l) != decoded || len(p) != prefix || (used == len(b)) != (e == api.OK) {
		t.Fatalf("got %d, %d, then %d, %d, want %d, %d, %d", err, len(l), len(p), used, e, decoded, prefix)
	}
}

// P6.3, P6.4: no more than MaxBytes bytes are decoded; of more, nothing is.
func TestDecodeManyBytes(t *testing.T) {
	l := sized(t, api.MaxBytes)
	b := joined(t, l...)
	checkDecoded(t, b, l...)
	if got, e := Decode(append(b, 1)); len(got) != 0 || e != api.ErrFull {
		t.Errorf("one byte too many: got %d operations, %d", len(got), e)
	}
	if got, used := Prefix(append(b, 1)); len(got) != 0 || used != 0 {
		t.Errorf("one byte too many: got %d operations, %d", len(got), used)
	}
	for _, x := range []byte{0, 1, 255} {
		tooLong := bytes.Repeat([]byte{x}, api.MaxBytes+1)
		if got, e := Decode(tooLong); len(got) != 0 || e != api.ErrFull {
			t.Errorf("bytes %d: got %d operations, %d", x, len(got), e)
		}
		if got, used := Prefix(tooLong); len(got) != 0 || used != 0 {
			t.Errorf("bytes %d: got %d operations, %d", x, len(got), used)
		}
	}
}

// P6.4: for every prefix of an encoding, the operations that lie in it as a whole.
func TestPrefix(t *testing.T) {
	l := slices.Concat(ofEachKind(), []api.Op{crash(api.MaxSectors, 3), {Kind: api.OpTable}, crash(0, 0), snapshot(), tick()})
	ends := []int{0}
	for _, x := range l {
		ends = append(ends, ends[len(ends)-1]+len(bytesOf(t, x)))
	}
	b := joined(t, l...)
	whole := 0
	for i := range len(b) + 1 {
		for whole < len(l) && ends[whole+1] <= i {
			whole++
		}
		if i == ends[whole] {
			checkDecoded(t, b[:i], l[:whole]...)
		} else {
			checkRefused(t, b[:i], api.ErrCut, l[:whole]...)
		}
	}
	if whole != len(l) {
		t.Fatal(whole)
	}
}

// P6.3, P6.4: whatever bytes are given, what Prefix gives has the encoding from which it was read, and Decode succeeds
// exactly if nothing is left.
func TestDecodeIsCanonical(t *testing.T) {
	random := rand.New(rand.NewSource(3))
	bytesToTry := []byte{0, 1, 2, 3, 7, 8, 9, 127, 128, 129, 255}
	start := joined(t, append(ofEachKind(), ofEachKind()...)...)
	for i := range 2000 {
		b := bytes.Clone(start)
		if i%2 == 0 {
			b = make([]byte, random.Intn(60))
			for j := range b {
				b[j] = bytesToTry[random.Intn(len(bytesToTry))]
			}
		}
		for range random.Intn(4) {
			if len(b) > 0 {
				b[random.Intn(len(b))] = bytesToTry[random.Intn(len(bytesToTry))]
			}
		}
		l, used := Prefix(b)
		again, e := Encode(l...)
		if e != api.OK || used > len(b) || !bytes.Equal(again, b[:used]) {
			t.Fatalf("%v: got %s, %d, whose encoding is %v, %d", b, text(l...), used, again, e)
		}
		checkDecoded(t, b[:used], l...)
		if _, e := Decode(b); (e == api.OK) != (used == len(b)) {
			t.Fatalf("%v: got %d, but a prefix of %d bytes", b, e, used)
		}
	}
}

// R2: results share no memory with the argument, nor with each other.
func TestDecodeKeepsNothing(t *testing.T) {
	all := ofEachKind()
	want := text(append(all, all...)...)
	b := make([]byte, 0, 1<<16)
	b = append(b, joined(t, append(all, all...)...)...)
	first, _ := Decode(b)
	second, _ := Prefix(b)
	third, _ := Decode(b)
	clear(b[:cap(b)])
	for i := range first {
		for _, l := range [][]int{
			first[i].Attestation.Validators, first[i].Slashing.First.Validators, first[i].Slashing.Second.Validators,
		} {
			clear(l[:cap(l)])
		}
		l := first[i].Table.Balances
		clear(l[:cap(l)])
		first[i].Kind = api.OpNone
	}
	if text(second...) != want || text(third...) != want {
		t.Errorf("the results became %s and %s, want %s", text(second...), text(third...), want)
	}
	l, _ := Decode(joined(t, attestation([]int{1, 2}), attestation([]int{3, 4})))
	validators := l[0].Attestation.Validators
	clear(validators[:cap(validators)])
	if !slices.Equal(l[1].Attestation.Validators, []int{3, 4}) {
		t.Error("two operations share memory")
	}
}
