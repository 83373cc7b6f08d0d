package script

import (
	"bytes"
	"encoding/binary"
	"fmt"
	"math"
	"reflect"
	"slices"
	"testing"

	"forkhead/api"
	"forkhead/records"
)

// most is the greatest number.
const most = math.MaxUint64

// filled returns a root that contains every byte from x to x + 31.
func filled(x byte) api.Root {
	r := api.Root{}
	for i := range r {
		r[i] = x + byte(i)
	}
	return r
}

// checkpoint returns a checkpoint whose parts differ from those of others.
func checkpoint(n uint64) api.Checkpoint {
	return api.Checkpoint{Epoch: n, Root: filled(byte(n))}
}

// upTo returns the numbers from 0 to n - 1.
func upTo(n int) []int {
	l := make([]int, n)
	for i := range l {
		l[i] = i
	}
	return l
}

func block() api.Op {
	return api.Op{Kind: api.OpBlock, Block: api.Block{
		Pulled:           api.Pulled{PulledJustified: checkpoint(40), PulledFinalized: checkpoint(50)},
		Slot:             300,
		Root:             filled(1),
		Parent:           filled(2),
		Payload:          filled(3),
		Difficulty:       api.Wide{1, 2, 3, 4},
		ParentDifficulty: api.Wide{5, 6, 7, 8},
		Justified:        checkpoint(60),
		Finalized:        checkpoint(70),
		Timely:           true,
	}}
}

func attestation(l []int) api.Op {
	return api.Op{Kind: api.OpAttestation, Attestation: api.Attestation{Slot: 9, Root: filled(4), Target: checkpoint(300), Validators: l}}
}

func slashing(first, second []int) api.Op {
	return api.Op{Kind: api.OpSlashing, Slashing: api.Slashing{
		First:  api.Claim{Source: 1, Target: 500, Root: filled(5), Validators: first},
		Second: api.Claim{Source: 2, Target: 400, Root: filled(6), Validators: second},
	}}
}

func table(l []uint64) api.Op {
	return api.Op{Kind: api.OpTable, Table: api.Table{Checkpoint: checkpoint(80), Balances: l}}
}

func verdict(kind int) api.Op {
	return api.Op{Kind: api.OpVerdict, Verdict: api.Verdict{Tagged: api.Tagged{Tag: 1000}, Kind: kind, Latest: filled(7)}}
}

func crash(write, keep int) api.Op {
	return api.Op{Kind: api.OpCrash, Write: write, Keep: keep}
}

func tick() api.Op     { return api.Op{Kind: api.OpTick} }
func snapshot() api.Op { return api.Op{Kind: api.OpSnapshot} }

// ofEachKind returns an operation of each kind, whose own fields are not zero.
func ofEachKind() []api.Op {
	return []api.Op{
		tick(), block(), attestation([]int{3, 4, 900}), slashing([]int{1, 9}, []int{9}), table([]uint64{5, 300, most}),
		verdict(api.VerdictInvalid), snapshot(), crash(2, 500),
	}
}

// samples returns valid operations, among them those with the smallest and the greatest fields.
func samples() []api.Op {
	full := upTo(api.MaxValidators)
	return append(ofEachKind(),
		api.Op{Kind: api.OpBlock},
		api.Op{Kind: api.OpBlock, Block: api.Block{Slot: most, Justified: checkpoint(most)}},
		api.Op{Kind: api.OpAttestation, Attestation: api.Attestation{Validators: []int{0}}},
		attestation(full), slashing(full, []int{1023}), slashing([]int{0}, full),
		api.Op{Kind: api.OpTable}, table(nil), table(make([]uint64, api.MaxValidators)),
		verdict(api.VerdictValid), verdict(api.VerdictSyncing), verdict(api.VerdictTimeout),
		crash(0, 0), crash(0, 1), crash(1, 0), crash(127, 128), crash(api.MaxSectors, 0), crash(0, api.MaxSectors),
		crash(api.MaxSectors, api.MaxSectors),
	)
}

// fieldOf returns the encoding of the field of x without its kind.
func fieldOf(x api.Op) ([]byte, api.Errno) {
	switch x.Kind {
	case api.OpBlock:
		return records.EncodeBlock(x.Block), api.OK
	case api.OpAttestation:
		return records.EncodeAttestation(x.Attestation)
	case api.OpSlashing:
		return records.EncodeSlashing(x.Slashing)
	case api.OpTable:
		return records.EncodeTable(x.Table)
	case api.OpVerdict:
		return records.EncodeVerdict(x.Verdict)
	case api.OpCrash:
		return binary.AppendUvarint(binary.AppendUvarint(nil, uint64(x.Write)), uint64(x.Keep)), api.OK
	}
	return nil, api.OK
}

// bytesOf returns the encoding of x as P6.2 composes it.
func bytesOf(t *testing.T, x api.Op) []byte {
	t.Helper()
	field, e := fieldOf(x)
	if e != api.OK {
		t.Fatalf("%v has the error %d", x, e)
	}
	return append([]byte{byte(x.Kind)}, field...)
}

// joined returns the encodings of the operations, one after another.
func joined(t *testing.T, l ...api.Op) []byte {
	t.Helper()
	b := []byte{}
	for _, x := range l {
		b = append(b, bytesOf(t, x)...)
	}
	return b
}

// text returns a notation of operations in which nil lists and empty lists are alike.
func text(l ...api.Op) string {
	return fmt.Sprint(l)
}

// leaf is a field without fields of its own: its name from the operation on, and its value, which can be set.
type leaf struct {
	name  string
	value reflect.Value
}

// leavesOf returns the leaves of a struct, but the kind of an operation.
func leavesOf(name string, x reflect.Value) []leaf {
	leaves := []leaf{}
	for i := range x.NumField() {
		full := name + x.Type().Field(i).Name
		switch {
		case full == "Kind":
		case x.Field(i).Kind() == reflect.Struct:
			leaves = append(leaves, leavesOf(full+".", x.Field(i))...)
		default:
			leaves = append(leaves, leaf{full, x.Field(i)})
		}
	}
	return leaves
}

// set makes a leaf something else than zero; of an array it is the last element alone.
func (l leaf) set() {
	switch v := l.value; v.Kind() {
	case reflect.Bool:
		v.SetBool(true)
	case reflect.Int:
		v.SetInt(1)
	case reflect.Uint64:
		v.SetUint(1)
	case reflect.Array:
		v.Index(v.Len() - 1).SetUint(1)
	case reflect.Slice:
		v.Set(reflect.MakeSlice(v.Type(), 1, 1))
	default:
		panic(l.name)
	}
}

// usedBy reports whether the kind of an operation uses a leaf, by the first name in its name.
func usedBy(kind int, name string) bool {
	field := map[int]string{
		api.OpBlock: "Block.", api.OpAttestation: "Attestation.", api.OpSlashing: "Slashing.", api.OpTable: "Table.",
		api.OpVerdict: "Verdict.",
	}[kind]
	if field != "" {
		return len(name) > len(field) && name[:len(field)] == field
	}
	return kind == api.OpCrash && (name == "Write" || name == "Keep")
}

// refused is an operation and its error.
type refused struct {
	x api.Op
	e api.Errno
}

// faulty returns operations with an error that is not about unused fields.
func faulty() []refused {
	good, tooLong := []int{1, 2}, upTo(api.MaxValidators+1)
	l := []refused{
		{attestation(nil), api.ErrForm},
		{attestation([]int{-1}), api.ErrRange},
		{attestation([]int{api.MaxValidators}), api.ErrRange},
		{attestation(tooLong), api.ErrRange},
		{attestation([]int{2, 1}), api.ErrOrder},
		{attestation([]int{2, 2, -1}), api.ErrOrder},
		{api.Op{Kind: api.OpAttestation}, api.ErrForm},
		{slashing(nil, good), api.ErrForm},
		{slashing(good, nil), api.ErrForm},
		{slashing(good, []int{2, 1}), api.ErrOrder},
		{slashing([]int{2, 1}, nil), api.ErrOrder},
		{slashing([]int{-1}, []int{2, 1}), api.ErrRange},
		{api.Op{Kind: api.OpSlashing}, api.ErrForm},
		{table(make([]uint64, api.MaxValidators+1)), api.ErrRange},
		{verdict(api.VerdictNone), api.ErrRange},
		{verdict(api.VerdictTimeout + 1), api.ErrRange},
		{verdict(-1), api.ErrRange},
		{api.Op{Kind: api.OpVerdict}, api.ErrRange},
	}
	for _, n := range []int{-1, api.MaxSectors + 1, math.MinInt, math.MaxInt, 1 << 32} {
		l = append(l, refused{crash(n, 0), api.ErrRange}, refused{crash(0, n), api.ErrRange}, refused{crash(n, n), api.ErrRange})
	}
	for _, kind := range []int{api.OpNone, api.OpCrash + 1, -1, math.MinInt, math.MaxInt, 256 + api.OpTick, 1<<32 + api.OpTick} {
		l = append(l, refused{api.Op{Kind: kind}, api.ErrForm})
	}
	return l
}

// P6.1: valid operations, whose own fields may have any value that can be encoded.
func TestValidate(t *testing.T) {
	for _, x := range samples() {
		if e := Validate(x); e != api.OK {
			t.Errorf("%s: got %d", text(x), e)
		}
	}
}

// P6.1: errors of the kind and of the field, of an operation whose other fields are zero.
func TestValidateErrors(t *testing.T) {
	for _, c := range faulty() {
		if e := Validate(c.x); e != c.e {
			t.Errorf("%s: got %d, want %d", text(c.x), e, c.e)
		}
	}
}

// P6.1: every single field that a kind does not use has to be zero; those that it uses need not.
func TestValidateUnusedFields(t *testing.T) {
	for _, x := range ofEachKind() {
		for i := range leavesOf("", reflect.ValueOf(&x).Elem()) {
			changed := x
			l := leavesOf("", reflect.ValueOf(&changed).Elem())[i]
			l.set()
			want := api.ErrForm
			if usedBy(x.Kind, l.name) {
				want = api.OK
			}
			if e := Validate(changed); e != want {
				t.Errorf("kind %d with %s: got %d, want %d", x.Kind, l.name, e, want)
			}
		}
	}
}

// P6.1: negative numbers in unused fields are not zero either.
func TestValidateNegativeUnusedFields(t *testing.T) {
	for _, kind := range []int{api.OpTick, api.OpSnapshot, api.OpBlock, api.OpTable} {
		for _, x := range []api.Op{
			{Kind: kind, Write: -1}, {Kind: kind, Keep: math.MinInt}, {Kind: kind, Write: 1, Keep: -1},
			{Kind: kind, Verdict: api.Verdict{Kind: -1}},
		} {
			if e := Validate(x); e != api.ErrForm {
				t.Errorf("%s: got %d", text(x), e)
			}
		}
	}
}

// withEmptyLists returns x with an empty list in place of each nil list.
func withEmptyLists(x api.Op) api.Op {
	for _, l := range leavesOf("", reflect.ValueOf(&x).Elem()) {
		if l.value.Kind() == reflect.Slice && l.value.IsNil() {
			l.value.Set(reflect.MakeSlice(l.value.Type(), 0, 5))
		}
	}
	return x
}

// P6.1, P6.2: an unused list may be empty, with spare capacity or not.
func TestUnusedListsMayBeEmpty(t *testing.T) {
	for _, x := range samples() {
		x = withEmptyLists(x)
		if x.Attestation.Validators == nil || x.Slashing.Second.Validators == nil || x.Table.Balances == nil {
			t.Fatal("a list is nil")
		}
		if e := Validate(x); e != api.OK {
			t.Errorf("%s: got %d", text(x), e)
		}
		if b, e := Encode(x); e != api.OK || !bytes.Equal(b, bytesOf(t, x)) {
			t.Errorf("%s: got %v, %d", text(x), b, e)
		}
	}
}

// P6.1: the errors of the kind and of the field come before that of an unused field.
func TestValidateOrderOfErrors(t *testing.T) {
	for _, c := range faulty() {
		for i := range leavesOf("", reflect.ValueOf(&c.x).Elem()) {
			x := c.x
			l := leavesOf("", reflect.ValueOf(&x).Elem())[i]
			if usedBy(x.Kind, l.name) {
				continue
			}
			l.set()
			if e := Validate(x); e != c.e {
				t.Errorf("%s with %s: got %d, want %d", text(c.x), l.name, e, c.e)
			}
		}
	}
}

// P6.2: encodings written out by hand.
func TestEncodeByHand(t *testing.T) {
	zeros := func(n int) []byte { return make([]byte, n) }
	cases := []struct {
		l    []api.Op
		want []byte
	}{
		{nil, nil},
		{[]api.Op{tick()}, []byte{1}},
		{[]api.Op{snapshot()}, []byte{7}},
		{[]api.Op{tick(), crash(2, 5)}, []byte{1, 8, 2, 5}},
		{[]api.Op{crash(2, 5), tick(), tick()}, []byte{8, 2, 5, 1, 1}},
		{[]api.Op{crash(300, api.MaxSectors)}, []byte{8, 172, 2, 128, 128, 2}},
		{[]api.Op{{Kind: api.OpBlock}, tick()}, slices.Concat([]byte{2}, zeros(294), []byte{1})},
		{
			[]api.Op{{Kind: api.OpAttestation, Attestation: api.Attestation{Slot: 4, Validators: []int{6}}}},
			slices.Concat([]byte{3, 4}, zeros(65), []byte{1, 6}),
		},
		{
			[]api.Op{{Kind: api.OpSlashing, Slashing: api.Slashing{
				First:  api.Claim{Source: 1, Target: 2, Validators: []int{3}},
				Second: api.Claim{Source: 4, Target: 5, Validators: []int{6}},
			}}},
			slices.Concat([]byte{4, 1, 2}, zeros(32), []byte{1, 3, 4, 5}, zeros(32), []byte{1, 6}),
		},
		{
			[]api.Op{{Kind: api.OpTable, Table: api.Table{Balances: []uint64{5, 300}}}},
			slices.Concat([]byte{5}, zeros(33), []byte{2, 5, 172, 2}),
		},
		{
			[]api.Op{{Kind: api.OpVerdict, Verdict: api.Verdict{Tagged: api.Tagged{Tag: 300}, Kind: api.VerdictTimeout}}},
			slices.Concat([]byte{6, 172, 2, 4}, zeros(32)),
		},
	}
	for _, c := range cases {
		if b, e := Encode(c.l...); e != api.OK || !bytes.Equal(b, c.want) {
			t.Errorf("%s: got %v, %d, want %v", text(c.l...), b, e, c.want)
		}
	}
}

// P6.2: every operation is encoded as its kind and its field, and a list of them in its order.
func TestEncode(t *testing.T) {
	all := samples()
	for _, x := range all {
		if b, e := Encode(x); e != api.OK || !bytes.Equal(b, bytesOf(t, x)) {
			t.Errorf("%s: got %v, %d, want %v", text(x), b, e, bytesOf(t, x))
		}
	}
	for range 2 {
		if b, e := Encode(all...); e != api.OK || !bytes.Equal(b, joined(t, all...)) {
			t.Errorf("all samples: got %d bytes, %d, want %d bytes", len(b), e, len(joined(t, all...)))
		}
		slices.Reverse(all)
	}
}

// checkNotEncoded checks that the operations cannot be encoded, because of e.
func checkNotEncoded(t *testing.T, name string, e api.Errno, l ...api.Op) {
	t.Helper()
	if b, err := Encode(l...); len(b) != 0 || err != e {
		t.Errorf("%s: got %d bytes, %d, want error %d", name, len(b), err, e)
	}
}

// P6.2: the first faulty operation counts, and none of those before it is encoded.
func TestEncodeErrors(t *testing.T) {
	unused := refused{api.Op{Kind: api.OpTick, Keep: 1}, api.ErrForm}
	all := append(faulty(), unused)
	for _, c := range all {
		checkNotEncoded(t, text(c.x), c.e, c.x)
		checkNotEncoded(t, text(c.x)+" behind others", c.e, append(ofEachKind(), c.x)...)
		checkNotEncoded(t, text(c.x)+" before others", c.e, append([]api.Op{c.x}, ofEachKind()...)...)
		for _, later := range all {
			checkNotEncoded(t, text(c.x, later.x), c.e, tick(), c.x, later.x)
		}
	}
}

// P6.2: the greatest number of operations; more than that have ErrFull whatever they are.
func TestEncodeManyOps(t *testing.T) {
	l := slices.Repeat([]api.Op{tick()}, api.MaxOps)
	if b, e := Encode(l...); e != api.OK || !bytes.Equal(b, bytes.Repeat([]byte{1}, api.MaxOps)) {
		t.Errorf("MaxOps ticks: got %d bytes, %d", len(b), e)
	}
	checkNotEncoded(t, "one tick too many", api.ErrFull, append(l, tick())...)
	checkNotEncoded(t, "many ticks too many", api.ErrFull, slices.Repeat(l, 3)...)
	for _, c := range faulty() {
		l[0], l[api.MaxOps-1] = c.x, tick()
		checkNotEncoded(t, text(c.x)+" before MaxOps ticks", api.ErrFull, append(l, tick())...)
		checkNotEncoded(t, text(c.x)+" before MaxOps - 1 ticks", c.e, l...)
		l[0], l[api.MaxOps-1] = tick(), c.x
		checkNotEncoded(t, text(c.x)+" behind MaxOps - 1 ticks", c.e, l...)
		l[api.MaxOps-1] = tick()
		checkNotEncoded(t, text(c.x)+" behind MaxOps ticks", api.ErrFull, append(l, c.x)...)
	}
}

// sized returns operations whose encoding has n bytes: great tables, then ticks.
func sized(t *testing.T, n int) []api.Op {
	t.Helper()
	great := table(slices.Repeat([]uint64{most}, api.MaxValidators))
	size := len(bytesOf(t, great))
	l := slices.Repeat([]api.Op{great}, n/size)
	return append(l, slices.Repeat([]api.Op{tick()}, n%size)...)
}

// P6.2: the greatest number of bytes; a faulty operation counts before it, wherever it is.
func TestEncodeManyBytes(t *testing.T) {
	if b, e := Encode(sized(t, api.MaxBytes)...); e != api.OK || len(b) != api.MaxBytes {
		t.Errorf("MaxBytes bytes: got %d, %d", len(b), e)
	}
	for _, n := range []int{api.MaxBytes + 1, api.MaxBytes + 2, api.MaxBytes + 9000, 2 * api.MaxBytes, 7 * api.MaxBytes} {
		checkNotEncoded(t, fmt.Sprint(n, " bytes"), api.ErrFull, sized(t, n)...)
	}
	tooLong := sized(t, 2*api.MaxBytes)
	for _, c := range faulty()[:8] {
		checkNotEncoded(t, text(c.x)+" behind too many bytes", c.e, append(slices.Clone(tooLong), c.x)...)
		checkNotEncoded(t, text(c.x)+" before too many bytes", c.e, append([]api.Op{c.x}, tooLong...)...)
	}
	// The operation that goes beyond the bound may be long.
	last := append(slices.Repeat([]api.Op{tick()}, 300), sized(t, api.MaxBytes-200)...)
	checkNotEncoded(t, "a long last operation", api.ErrFull, last...)
}

// R2: Encode leaves its arguments, with the spare capacity of lists, as they are, and keeps nothing of them.
func TestEncodeLeavesItsArguments(t *testing.T) {
	validators := []int{1, 4, 900, 7, 7}
	amounts := []uint64{6, 300, most, 7, 7}
	l := append(make([]api.Op, 0, 9), attestation(validators[:3]), slashing(validators[:3], validators[1:3]), table(amounts[:3]))
	before := text(l[:9]...)
	b, e := Encode(l...)
	if e != api.OK || text(l[:9]...) != before {
		t.Errorf("got %d, the arguments became %s", e, text(l[:9]...))
	}
	again, _ := Encode(l...)
	clear(b)
	if !bytes.Equal(again, joined(t, l...)) {
		t.Error("two results share memory")
	}
	if !slices.Equal(validators, []int{1, 4, 900, 7, 7}) || !slices.Equal(amounts, []uint64{6, 300, most, 7, 7}) {
		t.Errorf("the lists became %v, %v", validators, amounts)
	}
}
