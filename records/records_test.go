package records

import (
	"bytes"
	"encoding/binary"
	"math"
	"slices"
	"testing"

	"forkhead/api"
)

// most is the greatest number.
const most = math.MaxUint64

// part is a part of an encoding: its bytes, written without package codec, and its name.
type part struct {
	name string
	b    []byte
}

// number, root, word, checkpoint, flag and list return the parts of these types.
func number(name string, n uint64) part {
	return part{name, binary.AppendUvarint(nil, n)}
}

func root(name string, r api.Root) part {
	return part{name, bytes.Clone(r[:])}
}

func word(name string, a api.Wide) part {
	b := make([]byte, 0, 32)
	for i := range a {
		b = binary.BigEndian.AppendUint64(b, a[len(a)-1-i])
	}
	return part{name, b}
}

func checkpoint(name string, c api.Checkpoint) []part {
	return []part{number(name+".Epoch", c.Epoch), root(name+".Root", c.Root)}
}

func flag(name string, x bool) part {
	if x {
		return part{name, []byte{1}}
	}
	return part{name, []byte{0}}
}

func list(l []int) []part {
	parts := []part{number("length", uint64(len(l)))}
	for i, x := range l {
		if i == 0 {
			parts = append(parts, number("first", uint64(x)))
		} else {
			parts = append(parts, number("difference", uint64(x-l[i-1]-1)))
		}
	}
	return parts
}

func claim(x api.Claim) []part {
	parts := []part{number("Source", x.Source), number("Target", x.Target), root("Root", x.Root)}
	return append(parts, list(x.Validators)...)
}

// partsOf returns the parts of a record in the order of P5.3.
func partsOf(t *testing.T, x any) []part {
	t.Helper()
	switch x := x.(type) {
	case api.Block:
		return slices.Concat(
			[]part{number("Slot", x.Slot), root("Root", x.Root), root("Parent", x.Parent), root("Payload", x.Payload)},
			[]part{word("Difficulty", x.Difficulty), word("ParentDifficulty", x.ParentDifficulty)},
			checkpoint("Justified", x.Justified), checkpoint("Finalized", x.Finalized),
			checkpoint("PulledJustified", x.PulledJustified), checkpoint("PulledFinalized", x.PulledFinalized),
			[]part{flag("Timely", x.Timely)},
		)
	case api.Attestation:
		parts := []part{number("Slot", x.Slot), root("Root", x.Root)}
		return slices.Concat(parts, checkpoint("Target", x.Target), list(x.Validators))
	case api.Slashing:
		return slices.Concat(claim(x.First), claim(x.Second))
	case api.Table:
		parts := append(checkpoint("Checkpoint", x.Checkpoint), number("length", uint64(len(x.Balances))))
		for _, n := range x.Balances {
			parts = append(parts, number("balance", n))
		}
		return parts
	case api.Verdict:
		return []part{number("Tag", x.Tag), number("Kind", uint64(x.Kind)), root("Latest", x.Latest)}
	}
	t.Fatalf("%T is no record", x)
	return nil
}

// joined returns the bytes of the parts, one after another.
func joined(parts []part) []byte {
	b := []byte{}
	for _, p := range parts {
		b = append(b, p.b...)
	}
	return b
}

// encode calls the Encode function of the type of x.
func encode(t *testing.T, x any) ([]byte, api.Errno) {
	t.Helper()
	switch x := x.(type) {
	case api.Block:
		return EncodeBlock(x), api.OK
	case api.Attestation:
		return EncodeAttestation(x)
	case api.Slashing:
		return EncodeSlashing(x)
	case api.Table:
		return EncodeTable(x)
	case api.Verdict:
		return EncodeVerdict(x)
	}
	t.Fatalf("%T is no record", x)
	return nil, api.OK
}

// filled returns a root that contains every byte from x to x + 31.
func filled(x byte) api.Root {
	r := api.Root{}
	for i := range r {
		r[i] = x + byte(i)
	}
	return r
}

// limb returns a 256-bit number whose limbs differ.
func limb(n uint64) api.Wide {
	return api.Wide{n, n << 16, n << 32, n << 48}
}

// upTo returns the numbers from 0 to n - 1.
func upTo(n int) []int {
	l := make([]int, n)
	for i := range l {
		l[i] = i
	}
	return l
}

// balances returns n balances of every length.
func balances(n int) []uint64 {
	l := make([]uint64, n)
	for i := range l {
		l[i] = most >> (i % 65)
	}
	return l
}

// lists are lists that can be encoded: single elements, differences of one and two groups, and the longest ones.
func lists() [][]int {
	odd := []int{}
	for x := 1; x < api.MaxValidators; x += 2 {
		odd = append(odd, x)
	}
	last := api.MaxValidators - 1
	return [][]int{
		{0}, {1}, {127}, {128}, {129}, {last}, {3, 4, 9}, {0, 1}, {0, 2}, {0, last}, {last - 1, last},
		{0, 127}, {0, 128}, {0, 129}, {0, 130}, {5, 133}, {5, 134}, {127, 255, 383, 511, 640, 1000},
		odd, upTo(300), upTo(api.MaxValidators), upTo(api.MaxValidators)[1:],
	}
}

// block is a block all of whose parts differ.
func block() api.Block {
	return api.Block{
		Pulled: api.Pulled{
			PulledJustified: api.Checkpoint{Epoch: 500, Root: filled(60)},
			PulledFinalized: api.Checkpoint{Epoch: 600, Root: filled(70)},
		},
		Slot:             1 << 20,
		Root:             filled(10),
		Parent:           filled(20),
		Payload:          filled(30),
		Difficulty:       limb(7),
		ParentDifficulty: limb(5),
		Justified:        api.Checkpoint{Epoch: 300, Root: filled(40)},
		Finalized:        api.Checkpoint{Epoch: 400, Root: filled(50)},
		Timely:           true,
	}
}

// greatestBlock is a block of the greatest size.
func greatestBlock() api.Block {
	all := api.Root(bytes.Repeat([]byte{255}, 32))
	last := api.Checkpoint{Epoch: most, Root: all}
	return api.Block{
		Pulled:           api.Pulled{PulledJustified: last, PulledFinalized: last},
		Slot:             most,
		Root:             all,
		Parent:           all,
		Payload:          all,
		Difficulty:       api.Wide{most, most, most, most},
		ParentDifficulty: api.Wide{most, most, most, most},
		Justified:        last,
		Finalized:        last,
		Timely:           true,
	}
}

// attestation is an attestation whose parts differ.
func attestation(l []int) api.Attestation {
	return api.Attestation{
		Slot: 777, Root: filled(80), Target: api.Checkpoint{Epoch: 888, Root: filled(90)}, Validators: l,
	}
}

// slashing is a slashing whose parts differ.
func slashing(first, second []int) api.Slashing {
	return api.Slashing{
		First:  api.Claim{Source: 11, Target: 2222, Root: filled(100), Validators: first},
		Second: api.Claim{Source: 333, Target: 44, Root: filled(110), Validators: second},
	}
}

// table is a table whose parts differ.
func table(l []uint64) api.Table {
	return api.Table{Checkpoint: api.Checkpoint{Epoch: 999, Root: filled(120)}, Balances: l}
}

// verdict is a verdict whose parts differ.
func verdict(kind int) api.Verdict {
	return api.Verdict{Tagged: api.Tagged{Tag: 12345}, Kind: kind, Latest: filled(130)}
}

// samples are records of every type that can be encoded, the smallest and the greatest ones among them.
func samples() []any {
	all := []any{
		api.Block{}, block(), greatestBlock(),
		api.Table{}, table(nil), table([]uint64{}), table([]uint64{0}), table([]uint64{5, 300}), table(balances(65)),
		table(balances(api.MaxValidators - 1)), table(balances(api.MaxValidators)),
		table(slices.Repeat([]uint64{most}, api.MaxValidators)),
		api.Table{Checkpoint: api.Checkpoint{Epoch: most}, Balances: slices.Repeat([]uint64{most}, api.MaxValidators)},
		api.Attestation{Slot: most, Target: api.Checkpoint{Epoch: most}, Validators: []int{0}},
		api.Slashing{
			First:  api.Claim{Source: most, Target: most, Validators: upTo(api.MaxValidators)},
			Second: api.Claim{Source: most, Target: most, Validators: upTo(api.MaxValidators)},
		},
		api.Verdict{Tagged: api.Tagged{Tag: most}, Kind: api.VerdictValid},
		api.Verdict{Kind: api.VerdictTimeout},
	}
	for kind := api.VerdictValid; kind <= api.VerdictTimeout; kind++ {
		all = append(all, verdict(kind))
	}
	for _, l := range lists() {
		all = append(all, attestation(l), slashing(l, []int{2, 5}), slashing([]int{1, 9, 300}, l))
	}
	return all
}

// P5.1: the order of the errors, and bounds of every kind.
func TestValidateList(t *testing.T) {
	cases := []struct {
		l []int
		n int
		e api.Errno
	}{
		{nil, 5, api.ErrForm},
		{[]int{}, 5, api.ErrForm},
		{nil, 0, api.ErrForm},
		{nil, -1, api.ErrForm},
		{[]int{0}, 0, api.ErrRange},
		{[]int{0}, 1, api.OK},
		{[]int{0}, -1, api.ErrRange},
		{[]int{0}, math.MinInt, api.ErrRange},
		{[]int{-1}, math.MinInt, api.ErrRange},
		{[]int{math.MinInt}, math.MinInt, api.ErrRange},
		{[]int{-1}, 5, api.ErrRange},
		{[]int{math.MinInt}, 5, api.ErrRange},
		{[]int{4}, 5, api.OK},
		{[]int{5}, 5, api.ErrRange},
		{[]int{math.MaxInt}, 5, api.ErrRange},
		{[]int{math.MaxInt - 1}, math.MaxInt, api.OK},
		{[]int{math.MaxInt}, math.MaxInt, api.ErrRange},
		{[]int{0, math.MaxInt - 1}, math.MaxInt, api.OK},
		{[]int{0, 1, 2, 3, 4}, 5, api.OK},
		{[]int{0, 4}, 5, api.OK},
		{[]int{0, 4, 5}, 5, api.ErrRange},
		{[]int{3, 3}, 5, api.ErrOrder},
		{[]int{3, 2}, 5, api.ErrOrder},
		{[]int{0, 0}, 5, api.ErrOrder},
		{[]int{1, 3, 2}, 5, api.ErrOrder},
		{[]int{1, 3, 3}, 5, api.ErrOrder},
		{[]int{3, 2, 9}, 5, api.ErrOrder},
		{[]int{3, 9, 2}, 5, api.ErrRange},
		{[]int{3, 3, -1}, 5, api.ErrOrder},
		{[]int{3, -1}, 5, api.ErrRange},
		{[]int{3, -1, -1}, 5, api.ErrRange},
		{[]int{-1, -1}, 5, api.ErrRange},
		{[]int{9, 9}, 5, api.ErrRange},
		{upTo(api.MaxValidators), api.MaxValidators, api.OK},
		{upTo(api.MaxValidators + 1), api.MaxValidators, api.ErrRange},
		{upTo(5000), 5000, api.OK},
		{upTo(5000), 4999, api.ErrRange},
	}
	for _, c := range cases {
		before := slices.Clone(c.l)
		if e := ValidateList(c.l, c.n); e != c.e {
			t.Errorf("ValidateList(%v, %d): got %d, want %d", c.l, c.n, e, c.e)
		}
		if !slices.Equal(c.l, before) {
			t.Errorf("the argument %v became %v", before, c.l)
		}
	}
}

// P5.1: all short lists of small numbers, compared with the beginning up to which a list is ascending and in range.
func TestValidateShortLists(t *testing.T) {
	level := [][]int{{}}
	for range 4 {
		next := [][]int{}
		for _, l := range level {
			for x := -2; x <= 4; x++ {
				next = append(next, append(slices.Clone(l), x))
			}
		}
		for _, l := range next {
			for n := -1; n <= 5; n++ {
				if e, want := ValidateList(l, n), firstError(l, n); e != want {
					t.Fatalf("ValidateList(%v, %d): got %d, want %d", l, n, e, want)
				}
			}
		}
		level = next
	}
}

// firstError is ValidateList by a search: the set of elements that may stand at a place shrinks from left to right.
func firstError(l []int, n int) api.Errno {
	allowed := upTo(max(n, 0))
	for _, x := range l {
		at := slices.Index(allowed, x)
		if at < 0 && slices.Contains(upTo(max(n, 0)), x) {
			return api.ErrOrder
		}
		if at < 0 {
			return api.ErrRange
		}
		allowed = allowed[at+1:]
	}
	return api.OK
}

// P5.2: lists written out by hand, as the ends of attestations and within slashings.
func TestEncodeList(t *testing.T) {
	full := append([]byte{128, 8}, make([]byte, api.MaxValidators)...)
	cases := []struct {
		l    []int
		want []byte
	}{
		{[]int{3, 4, 9}, []byte{3, 3, 0, 4}},
		{[]int{0}, []byte{1, 0}},
		{[]int{7}, []byte{1, 7}},
		{[]int{127}, []byte{1, 127}},
		{[]int{128}, []byte{1, 128, 1}},
		{[]int{1023}, []byte{1, 255, 7}},
		{[]int{0, 1}, []byte{2, 0, 0}},
		{[]int{0, 128}, []byte{2, 0, 127}},
		{[]int{0, 129}, []byte{2, 0, 128, 1}},
		{[]int{0, 1023}, []byte{2, 0, 254, 7}},
		{[]int{1022, 1023}, []byte{2, 254, 7, 0}},
		{[]int{10, 20, 300, 301}, []byte{4, 10, 9, 151, 2, 0}},
		{upTo(127), append([]byte{127}, make([]byte, 127)...)},
		{upTo(128), append([]byte{128, 1}, make([]byte, 128)...)},
		{upTo(api.MaxValidators), full},
	}
	for _, c := range cases {
		b, e := EncodeAttestation(api.Attestation{Validators: c.l})
		if want := append(make([]byte, 66), c.want...); e != api.OK || !bytes.Equal(b, want) {
			t.Errorf("attestation of %v: got %v, %d, want %v", c.l, b, e, want)
		}
		b, e = EncodeSlashing(api.Slashing{First: api.Claim{Validators: c.l}, Second: api.Claim{Validators: c.l}})
		half := append(make([]byte, 34), c.want...)
		if want := slices.Concat(half, half); e != api.OK || !bytes.Equal(b, want) {
			t.Errorf("slashing of %v: got %v, %d, want %v", c.l, b, e, want)
		}
	}
}

// P5.3: every record consists of its parts in their order.
func TestEncode(t *testing.T) {
	for _, x := range samples() {
		b, e := encode(t, x)
		if want := joined(partsOf(t, x)); e != api.OK || !bytes.Equal(b, want) {
			t.Errorf("%T %v: got %v, %d, want %v", x, x, b, e, want)
		}
	}
}

// P5.3: small records written out by hand.
func TestEncodeByHand(t *testing.T) {
	zeros := func(n int) []byte { return make([]byte, n) }
	cases := []struct {
		x    any
		want []byte
	}{
		{api.Block{}, zeros(1 + 3*32 + 2*32 + 4*33 + 1)},
		{api.Block{Slot: 300, Timely: true}, slices.Concat([]byte{172, 2}, zeros(292), []byte{1})},
		{
			api.Block{Difficulty: api.Wide{9}, ParentDifficulty: api.Wide{0, 0, 0, 1 << 56}},
			slices.Concat(zeros(1+3*32+31), []byte{9, 1}, zeros(31+4*33+1)),
		},
		{api.Table{}, zeros(34)},
		{api.Table{Checkpoint: api.Checkpoint{Epoch: 2}, Balances: []uint64{5, 300}}, slices.Concat([]byte{2}, zeros(32), []byte{2, 5, 172, 2})},
		{api.Verdict{Kind: api.VerdictValid}, slices.Concat([]byte{0, 1}, zeros(32))},
		{api.Verdict{Tagged: api.Tagged{Tag: 300}, Kind: api.VerdictTimeout}, slices.Concat([]byte{172, 2, 4}, zeros(32))},
		{api.Attestation{Slot: 4, Validators: []int{6}}, slices.Concat([]byte{4}, zeros(65), []byte{1, 6})},
		{
			api.Slashing{First: api.Claim{Source: 1, Target: 2, Validators: []int{3}}, Second: api.Claim{Source: 4, Target: 5, Validators: []int{6}}},
			slices.Concat([]byte{1, 2}, zeros(32), []byte{1, 3, 4, 5}, zeros(32), []byte{1, 6}),
		},
	}
	for _, c := range cases {
		if b, e := encode(t, c.x); e != api.OK || !bytes.Equal(b, c.want) {
			t.Errorf("%T %v: got %v, %d, want %v", c.x, c.x, b, e, c.want)
		}
	}
}

// P5.3: records that cannot be encoded; of two faulty lists, the first one counts.
func TestEncodeErrors(t *testing.T) {
	tooLong := upTo(api.MaxValidators + 1)
	good := []int{1, 2}
	cases := []struct {
		x any
		e api.Errno
	}{
		{attestation(nil), api.ErrForm},
		{attestation([]int{}), api.ErrForm},
		{attestation([]int{-1}), api.ErrRange},
		{attestation([]int{api.MaxValidators}), api.ErrRange},
		{attestation([]int{math.MaxInt}), api.ErrRange},
		{attestation([]int{math.MinInt}), api.ErrRange},
		{attestation(tooLong), api.ErrRange},
		{attestation([]int{2, 2}), api.ErrOrder},
		{attestation([]int{2, 1, 5000}), api.ErrOrder},
		{attestation([]int{2, 5000, 1}), api.ErrRange},
		{attestation(slices.Repeat([]int{0}, 5000)), api.ErrOrder},
		{slashing(nil, good), api.ErrForm},
		{slashing(good, nil), api.ErrForm},
		{slashing([]int{}, []int{}), api.ErrForm},
		{slashing([]int{1, 1}, nil), api.ErrOrder},
		{slashing(nil, []int{1, 1}), api.ErrForm},
		{slashing([]int{-1}, []int{1, 1}), api.ErrRange},
		{slashing([]int{1, 1}, []int{-1}), api.ErrOrder},
		{slashing(good, []int{-1}), api.ErrRange},
		{slashing(good, []int{3, 2}), api.ErrOrder},
		{slashing(tooLong, good), api.ErrRange},
		{slashing(good, tooLong), api.ErrRange},
		{table(make([]uint64, api.MaxValidators+1)), api.ErrRange},
		{table(make([]uint64, 5000)), api.ErrRange},
		{api.Verdict{}, api.ErrRange},
		{verdict(api.VerdictNone), api.ErrRange},
		{verdict(api.VerdictTimeout + 1), api.ErrRange},
		{verdict(-1), api.ErrRange},
		{verdict(math.MinInt), api.ErrRange},
		{verdict(math.MaxInt), api.ErrRange},
		{verdict(256 + api.VerdictValid), api.ErrRange},
	}
	for _, c := range cases {
		if b, e := encode(t, c.x); len(b) != 0 || e != c.e {
			t.Errorf("%T %v: got %v, %d, want %d", c.x, c.x, b, e, c.e)
		}
	}
}

// R2: the Encode functions leave their arguments, with the spare capacity of lists, as they are, and keep nothing of them.
func TestEncodeLeavesItsArgument(t *testing.T) {
	validators := []int{1, 4, 900, 7, 7}
	amounts := []uint64{6, 300, most, 7, 7}
	for _, x := range []any{
		attestation(validators[:3]), slashing(validators[:3], validators[1:3]), table(amounts[:3]),
	} {
		b, _ := encode(t, x)
		before := bytes.Clone(b)
		_ = append(b, 200, 200, 200)
		again, e := encode(t, x)
		if e != api.OK || !bytes.Equal(again, before) {
			t.Errorf("%T: got %v, then %v, %d", x, before, again, e)
		}
		for i := range again {
			again[i] = 99
		}
		if !bytes.Equal(b, before) {
			t.Errorf("%T: two results share memory", x)
		}
	}
	if !slices.Equal(validators, []int{1, 4, 900, 7, 7}) || !slices.Equal(amounts, []uint64{6, 300, most, 7, 7}) {
		t.Errorf("the arguments became %v, %v", validators, amounts)
	}
	b := EncodeBlock(block())
	b[0] = 99
	if !bytes.Equal(EncodeBlock(block()), joined(partsOf(t, block()))) {
		t.Error("block: two results share memory")
	}
}
