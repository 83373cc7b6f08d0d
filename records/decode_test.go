package records

import (
	"bytes"
	"fmt"
	"math/rand"
	"slices"
	"strings"
	"testing"

	"forkhead/api"
)

// decode calls the Decode function of the type of x.
func decode(t *testing.T, x any, b []byte) (any, int, api.Errno) {
	t.Helper()
	switch x.(type) {
	case api.Block:
		return result(DecodeBlock(b))
	case api.Attestation:
		return result(DecodeAttestation(b))
	case api.Slashing:
		return result(DecodeSlashing(b))
	case api.Table:
		return result(DecodeTable(b))
	case api.Verdict:
		return result(DecodeVerdict(b))
	}
	t.Fatalf("%T is no record", x)
	return nil, 0, api.OK
}

// result makes the result of a Decode function one of any type.
func result[T any](x T, used int, e api.Errno) (any, int, api.Errno) {
	return x, used, e
}

// zeroOf returns the zero value of the type of x.
func zeroOf(x any) any {
	switch x.(type) {
	case api.Block:
		return api.Block{}
	case api.Attestation:
		return api.Attestation{}
	case api.Slashing:
		return api.Slashing{}
	case api.Table:
		return api.Table{}
	}
	return api.Verdict{}
}

// text returns a notation of a record in which nil lists and empty lists are alike.
func text(x any) string {
	return fmt.Sprintf("%T %v", x, x)
}

// checkDecoded checks that b begins with the encoding of x, of size bytes.
func checkDecoded(t *testing.T, x any, b []byte, size int) {
	t.Helper()
	before := bytes.Clone(b)
	got, used, e := decode(t, x, b)
	if e != api.OK || used != size || text(got) != text(x) {
		t.Fatalf("%v: got %v, %d, %d, want %s and %d", b, got, used, e, text(x), size)
	}
	if !bytes.Equal(b, before) {
		t.Fatalf("the argument %v became %v", before, b)
	}
}

// checkRefused checks that b cannot be decoded as a record of the type of x, because of e.
func checkRefused(t *testing.T, x any, b []byte, e api.Errno) {
	t.Helper()
	got, used, err := decode(t, x, b)
	if err != e || used != 0 || text(got) != text(zeroOf(x)) {
		t.Fatalf("%T of %v: got %v, %d, %d, want error %d", x, b, got, used, err, e)
	}
}

// P5.4: an encoding gives the value and its length, whatever follows.
func TestDecode(t *testing.T) {
	for _, x := range samples() {
		b := joined(partsOf(t, x))
		checkDecoded(t, x, b, len(b))
		for _, more := range [][]byte{{0}, {1}, {77}, {128}, {255}, bytes.Repeat([]byte{255}, 100), b, make([]byte, 50000)} {
			checkDecoded(t, x, slices.Concat(b, more), len(b))
		}
	}
}

// P5.4: no beginning of an encoding is one.
func TestDecodeBeginnings(t *testing.T) {
	for _, x := range samples() {
		b := joined(partsOf(t, x))
		for i := range b {
			// Of the long encodings, a part of the beginnings is enough.
			if i < 400 || i%97 == 0 || i > len(b)-20 {
				checkRefused(t, x, b[:i], api.ErrCut)
			}
		}
	}
}

// isNumber reports whether a part is a number, by its name.
func isNumber(name string) bool {
	ends := []string{"Slot", "Epoch", "Source", "Target", "Tag", "Kind", "length", "first", "difference", "balance"}
	return slices.ContainsFunc(ends, func(end string) bool { return strings.HasSuffix(name, end) })
}

// bound returns the greatest number that a part may be.
func bound(name string) uint64 {
	switch name {
	case "length", "first", "difference":
		return api.MaxValidators
	case "Kind":
		return api.VerdictTimeout
	}
	return most
}

// P5.4: every part is read by its method: in each place a faulty encoding has the error of that part, whether what follows
// is right, cut or faulty in another way.
func TestDecodeFaultyParts(t *testing.T) {
	for _, x := range []any{
		block(), attestation([]int{3, 4, 300}), slashing([]int{1, 500}, []int{2, 3, 9}), table([]uint64{5, 300, most}),
		verdict(api.VerdictInvalid),
	} {
		parts := partsOf(t, x)
		for i, p := range parts {
			before, behind := joined(parts[:i]), joined(parts[i+1:])
			faults := map[string]api.Errno{}
			if isNumber(p.name) {
				faults["\x80\x00"] = api.ErrForm
				faults["\x85\x00"] = api.ErrForm
				faults["\xff\xff\xff\xff\xff\xff\xff\xff\xff\x02"] = api.ErrForm
				faults["\x80\x80\x80\x80\x80\x80\x80\x80\x80\x80\x00"] = api.ErrForm
			}
			if isNumber(p.name) && bound(p.name) < most {
				faults[string(number("", bound(p.name)+1).b)] = api.ErrRange
				faults[string(number("", 1<<32).b)] = api.ErrRange
				faults[string(number("", 1<<63).b)] = api.ErrRange
				faults[string(number("", most).b)] = api.ErrRange
			}
			if p.name == "Timely" {
				faults["\x02"] = api.ErrForm
				faults["\x80"] = api.ErrForm
				faults["\xff"] = api.ErrForm
			}
			for fault, e := range faults {
				faulty := append(bytes.Clone(before), fault...)
				checkRefused(t, x, faulty, e)
				checkRefused(t, x, slices.Concat(faulty, behind), e)
				checkRefused(t, x, append(faulty, bytes.Repeat([]byte{255}, 2000)...), e)
				checkRefused(t, x, append(faulty, make([]byte, 2000)...), e)
			}
		}
	}
}

// P5.4: all numbers but the lengths, the kind and the parts of lists may have any value.
func TestDecodeGreatNumbers(t *testing.T) {
	for _, n := range []uint64{0, 127, 128, 1 << 32, api.MaxSlot + 1, 1<<63 - 1, 1 << 63, most} {
		c := api.Checkpoint{Epoch: n, Root: filled(3)}
		first := api.Claim{Source: n, Target: n / 3, Validators: []int{1}}
		second := api.Claim{Source: n / 5, Target: n, Validators: []int{1}}
		for _, x := range []any{
			api.Block{Slot: n}, api.Block{Justified: c}, api.Block{Finalized: c}, api.Block{Pulled: api.Pulled{PulledJustified: c}},
			api.Block{Pulled: api.Pulled{PulledFinalized: c}}, api.Attestation{Slot: n, Validators: []int{4}},
			api.Attestation{Target: c, Validators: []int{4}}, api.Slashing{First: first, Second: second},
			api.Table{Checkpoint: c}, api.Table{Balances: []uint64{n, n, n}},
			api.Verdict{Tagged: api.Tagged{Tag: n}, Kind: api.VerdictSyncing},
		} {
			b := joined(partsOf(t, x))
			checkDecoded(t, x, append(b, 9), len(b))
		}
	}
}

// P5.4: lists at their bounds. What can be read but not encoded has ErrForm.
func TestDecodeLists(t *testing.T) {
	full := func(first byte) []byte {
		return append([]byte{128, 8, first}, make([]byte, api.MaxValidators-1)...)
	}
	cases := []struct {
		b []byte
		l []int
		e api.Errno
	}{
		{[]byte{3, 3, 0, 4}, []int{3, 4, 9}, api.OK},
		{[]byte{1, 0}, []int{0}, api.OK},
		{[]byte{1, 255, 7}, []int{1023}, api.OK},
		{[]byte{2, 0, 254, 7}, []int{0, 1023}, api.OK},
		{[]byte{2, 254, 7, 0}, []int{1022, 1023}, api.OK},
		{full(0), upTo(api.MaxValidators), api.OK},
		{[]byte{0}, nil, api.ErrForm},
		{[]byte{1, 128, 8}, nil, api.ErrForm},
		{[]byte{2, 255, 7, 0}, nil, api.ErrForm},
		{[]byte{2, 0, 255, 7}, nil, api.ErrForm},
		{[]byte{2, 128, 8, 128, 8}, nil, api.ErrForm},
		{[]byte{3, 0, 128, 8, 0}, nil, api.ErrForm},
		{full(1), nil, api.ErrForm},
		{append([]byte{128, 8}, bytes.Repeat([]byte{128, 8}, api.MaxValidators)...), nil, api.ErrForm},
		{append([]byte{129, 8}, make([]byte, api.MaxValidators+1)...), nil, api.ErrRange},
		{[]byte{129, 8}, nil, api.ErrRange},
		{[]byte{1, 129, 8}, nil, api.ErrRange},
		{[]byte{2, 128, 8, 129, 8}, nil, api.ErrRange},
		{[]byte{2, 0, 129, 8}, nil, api.ErrRange},
		{[]byte{2, 128, 8}, nil, api.ErrCut},
		{[]byte{128, 8}, nil, api.ErrCut},
		{full(1)[:api.MaxValidators+1], nil, api.ErrCut},
		{[]byte{2, 129, 8, 128, 0}, nil, api.ErrRange},
		{[]byte{2, 128, 0, 129, 8}, nil, api.ErrForm},
	}
	head := joined(partsOf(t, attestation([]int{0})))
	head = head[:len(head)-2]
	front := joined(partsOf(t, slashing([]int{1, 9}, []int{0})))
	front = front[:len(front)-2]
	for _, c := range cases {
		b, claims := slices.Concat(head, c.b), slices.Concat(front, c.b)
		if c.e == api.OK {
			checkDecoded(t, attestation(c.l), b, len(b))
			checkDecoded(t, slashing([]int{1, 9}, c.l), claims, len(claims))
			continue
		}
		checkRefused(t, api.Attestation{}, b, c.e)
		checkRefused(t, api.Slashing{}, claims, c.e)
	}
}

// P5.4: numbers of balances at their bounds; a table may have none.
func TestDecodeTables(t *testing.T) {
	head := make([]byte, 33)
	full := slices.Concat(head, []byte{128, 8}, make([]byte, api.MaxValidators))
	checkDecoded(t, api.Table{}, append(head, 0), 34)
	checkDecoded(t, api.Table{Balances: make([]uint64, api.MaxValidators)}, append(full, 0, 0), len(full))
	checkRefused(t, api.Table{}, full[:len(full)-1], api.ErrCut)
	checkRefused(t, api.Table{}, slices.Concat(head, []byte{129, 8}, make([]byte, 2000)), api.ErrRange)
	checkRefused(t, api.Table{}, slices.Concat(head, []byte{129, 8}), api.ErrRange)
}

// P5.4: kinds of verdicts; that the kind is VerdictNone counts after all parts have been read.
func TestDecodeVerdicts(t *testing.T) {
	tail := make([]byte, 32)
	for kind := range 256 {
		b := slices.Concat(number("", 7).b, number("", uint64(kind)).b, tail)
		switch {
		case kind == api.VerdictNone:
			checkRefused(t, api.Verdict{}, b, api.ErrForm)
			checkRefused(t, api.Verdict{}, append(b, 1), api.ErrForm)
			checkRefused(t, api.Verdict{}, b[:len(b)-1], api.ErrCut)
			checkRefused(t, api.Verdict{}, b[:2], api.ErrCut)
		case kind > api.VerdictTimeout:
			checkRefused(t, api.Verdict{}, b, api.ErrRange)
			checkRefused(t, api.Verdict{}, b[:len(b)-len(tail)], api.ErrRange)
		default:
			checkDecoded(t, api.Verdict{Tagged: api.Tagged{Tag: 7}, Kind: kind}, b, len(b))
		}
	}
}

// P5.4: that a list cannot be encoded counts after all parts have been read, so an error of a later part comes before it.
func TestDecodeFirstListThatCannotBeEncoded(t *testing.T) {
	front := make([]byte, 34)
	for _, l := range [][]byte{{0}, {1, 128, 8}, {2, 255, 7, 0}} {
		first := slices.Concat(front, l)
		checkRefused(t, api.Slashing{}, slices.Concat(first, front, []byte{1, 0}), api.ErrForm)
		checkRefused(t, api.Slashing{}, slices.Concat(first, first), api.ErrForm)
		checkRefused(t, api.Slashing{}, first, api.ErrCut)
		checkRefused(t, api.Slashing{}, slices.Concat(first, front), api.ErrCut)
		checkRefused(t, api.Slashing{}, slices.Concat(first, front, []byte{1}), api.ErrCut)
		checkRefused(t, api.Slashing{}, slices.Concat(first, front, []byte{129, 8}), api.ErrRange)
		checkRefused(t, api.Slashing{}, slices.Concat(first, front, []byte{1, 129, 8}), api.ErrRange)
		checkRefused(t, api.Slashing{}, slices.Concat(first, []byte{128, 0}), api.ErrForm)
		checkRefused(t, api.Slashing{}, slices.Concat(front, []byte{1, 0}, first), api.ErrForm)
	}
}

// checkCanonical checks that b is either refused or begins with the encoding of what it gives.
func checkCanonical(t *testing.T, x any, b []byte) {
	t.Helper()
	got, used, e := decode(t, x, b)
	if e != api.OK {
		checkRefused(t, x, b, e)
		return
	}
	again, e := encode(t, got)
	if e != api.OK || used < 0 || used > len(b) || !bytes.Equal(again, b[:used]) {
		t.Fatalf("%v: got %s, %d, whose encoding is %v, %d", b, text(got), used, again, e)
	}
}

// P5.4: every value that is decoded has the encoding from which it was read: encodings with other bytes, less or more.
func TestDecodeIsCanonical(t *testing.T) {
	random := rand.New(rand.NewSource(5))
	bytesToTry := []byte{0, 1, 2, 4, 5, 7, 8, 127, 128, 129, 255}
	for _, x := range samples() {
		b := joined(partsOf(t, x))
		for range 200 {
			changed := append(bytes.Clone(b), 0, 1, 128)
			for range 1 + random.Intn(3) {
				changed[random.Intn(len(changed))] = bytesToTry[random.Intn(len(bytesToTry))]
			}
			checkCanonical(t, x, changed)
			at := random.Intn(len(changed))
			checkCanonical(t, x, slices.Delete(bytes.Clone(changed), at, at+1))
			checkCanonical(t, x, slices.Insert(changed, at, bytesToTry[random.Intn(len(bytesToTry))]))
		}
	}
}

// P5.4: bytes at random never make a Decode function panic, and nothing that it gives is longer than they are.
func TestDecodeRandomBytes(t *testing.T) {
	random := rand.New(rand.NewSource(6))
	for _, x := range []any{api.Block{}, api.Attestation{}, api.Slashing{}, api.Table{}, api.Verdict{}} {
		checkRefused(t, x, nil, api.ErrCut)
		checkRefused(t, x, []byte{}, api.ErrCut)
		for range 3000 {
			b := make([]byte, random.Intn(400))
			for i := range b {
				b[i] = byte(random.Intn(256)) >> random.Intn(8)
			}
			checkCanonical(t, x, b)
		}
	}
}

// P5.4 and R2: a decoded record shares no memory with the bytes, with another result, or within itself.
func TestDecodeReturnsNewMemory(t *testing.T) {
	b, _ := EncodeSlashing(slashing([]int{1, 2, 3}, []int{4, 5, 6}))
	x, _, _ := DecodeSlashing(b)
	y, _, _ := DecodeSlashing(b)
	for i := range b {
		b[i] = 0
	}
	y.First.Validators[0], y.Second.Validators[0] = 77, 88
	_ = append(x.First.Validators, 99, 99, 99)
	_ = append(x.Second.Validators, 99, 99, 99)
	if text(x) != text(slashing([]int{1, 2, 3}, []int{4, 5, 6})) {
		t.Errorf("the result became %v", x)
	}
	b, _ = EncodeTable(table([]uint64{1, 2}))
	v, _, _ := DecodeTable(b)
	w, _, _ := DecodeTable(b)
	w.Balances[0] = 77
	if text(v) != text(table([]uint64{1, 2})) {
		t.Errorf("the result became %v", v)
	}
}
