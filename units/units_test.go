package units

import (
	"math/big"
	"slices"
	"testing"

	"forkhead/api"
)

// most is the greatest number.
const most = 1<<64 - 1

// numbers are the values around which carries, borrows and high words change.
var numbers = []uint64{
	0, 1, 2, 3, 5, 63, 64, 65,
	1<<31 - 1, 1 << 31, 1<<32 - 1, 1 << 32, 1<<32 + 1, 1 << 33,
	api.MaxSlot, api.MaxTotal, 1<<63 - 1, 1 << 63, 1<<63 + 1,
	most / 3, most/3 + 1, most - 2, most - 1, most,
}

// want turns an exact result into the one that P1.1 promises for it.
func want(exact *big.Int) (uint64, api.Errno) {
	if !exact.IsUint64() {
		return 0, api.ErrOverflow
	}
	return exact.Uint64(), api.OK
}

func wide(n uint64) *big.Int {
	return new(big.Int).SetUint64(n)
}

// P1.1: every pair of the numbers, compared with numbers of any size.
func TestPairsAreExact(t *testing.T) {
	calls := []struct {
		name  string
		call  func(uint64, uint64) (uint64, api.Errno)
		exact func(z, a, b *big.Int) *big.Int
	}{
		{"Add", Add, (*big.Int).Add},
		{"Sub", Sub, (*big.Int).Sub},
		{"Mul", Mul, (*big.Int).Mul},
	}
	for _, c := range calls {
		for _, a := range numbers {
			for _, b := range numbers {
				n, e := want(c.exact(new(big.Int), wide(a), wide(b)))
				if got, err := c.call(a, b); got != n || err != e {
					t.Errorf("%s(%d, %d): got %d, %d, want %d, %d", c.name, a, b, got, err, n, e)
				}
			}
		}
	}
}

// P1.1: results and errors written out by hand.
func TestPairsAtTheirBounds(t *testing.T) {
	cases := []struct {
		name string
		call func(uint64, uint64) (uint64, api.Errno)
		a, b uint64
		n    uint64
		e    api.Errno
	}{
		{"Add", Add, 2, 3, 5, api.OK},
		{"Add", Add, most, 0, most, api.OK},
		{"Add", Add, most - 1, 1, most, api.OK},
		{"Add", Add, 1, most, 0, api.ErrOverflow},
		{"Add", Add, most, most, 0, api.ErrOverflow},
		{"Sub", Sub, 7, 3, 4, api.OK},
		{"Sub", Sub, most, most, 0, api.OK},
		{"Sub", Sub, 0, 1, 0, api.ErrOverflow},
		{"Sub", Sub, most - 1, most, 0, api.ErrOverflow},
		{"Mul", Mul, 6, 7, 42, api.OK},
		{"Mul", Mul, 0, most, 0, api.OK},
		{"Mul", Mul, most, 1, most, api.OK},
		{"Mul", Mul, most / 3, 3, most, api.OK},
		{"Mul", Mul, 1 << 63, 2, 0, api.ErrOverflow},
		{"Mul", Mul, most/3 + 1, 3, 0, api.ErrOverflow},
		{"Mul", Mul, most, most, 0, api.ErrOverflow},
	}
	for _, c := range cases {
		if n, e := c.call(c.a, c.b); n != c.n || e != c.e {
			t.Errorf("%s(%d, %d): got %d, %d, want %d, %d", c.name, c.a, c.b, n, e, c.n, c.e)
		}
	}
}

// P1.1: sums of no, one and several numbers; an overflow counts wherever it occurs.
func TestSum(t *testing.T) {
	cases := []struct {
		l []uint64
		n uint64
		e api.Errno
	}{
		{nil, 0, api.OK},
		{[]uint64{}, 0, api.OK},
		{[]uint64{7}, 7, api.OK},
		{[]uint64{most}, most, api.OK},
		{[]uint64{1, 2, 3, 4}, 10, api.OK},
		{[]uint64{0, most, 0}, most, api.OK},
		{[]uint64{1 << 63, 1<<63 - 2, 1}, most, api.OK},
		{[]uint64{1 << 63, 1<<63 - 1, 1}, 0, api.ErrOverflow},
		{[]uint64{1 << 63, 1 << 63}, 0, api.ErrOverflow},
		{[]uint64{1 << 63, 1 << 63, 5}, 0, api.ErrOverflow},
		{[]uint64{most, 1, 0}, 0, api.ErrOverflow},
		{[]uint64{most, most, most}, 0, api.ErrOverflow},
	}
	for _, c := range cases {
		if n, e := Sum(c.l...); n != c.n || e != c.e {
			t.Errorf("Sum(%v): got %d, %d, want %d, %d", c.l, n, e, c.n, c.e)
		}
	}
}

// P1.1: three numbers at a time, compared with numbers of any size.
func TestSumIsExact(t *testing.T) {
	for _, a := range numbers {
		for _, b := range numbers {
			for _, c := range numbers {
				exact := new(big.Int).Add(wide(a), wide(b))
				n, e := want(exact.Add(exact, wide(c)))
				if got, err := Sum(a, b, c); got != n || err != e {
					t.Fatalf("Sum(%d, %d, %d): got %d, %d, want %d, %d", a, b, c, got, err, n, e)
				}
			}
		}
	}
}

// R2: Sum leaves its argument and the spare capacity behind it as they are.
func TestSumLeavesItsArgument(t *testing.T) {
	whole := []uint64{4, 5, 6, 7}
	if n, e := Sum(whole[:2]...); n != 9 || e != api.OK {
		t.Errorf("got %d, %d", n, e)
	}
	if !slices.Equal(whole, []uint64{4, 5, 6, 7}) {
		t.Errorf("the argument became %v", whole)
	}
}

// P1.2: the epochs of slots.
func TestEpochOf(t *testing.T) {
	cases := []struct {
		slot, perEpoch, epoch uint64
	}{
		{0, 1, 0}, {7, 1, 7}, {most, 1, most},
		{0, 4, 0}, {3, 4, 0}, {4, 4, 1}, {7, 4, 1}, {8, 4, 2}, {9, 4, 2},
		{63, 64, 0}, {64, 64, 1}, {127, 64, 1}, {128, 64, 2},
		{api.MaxSlot, 64, 1 << 34}, {most, 64, 1<<58 - 1}, {most, 3, most / 3},
	}
	for _, c := range cases {
		if n, e := EpochOf(c.slot, c.perEpoch); n != c.epoch || e != api.OK {
			t.Errorf("EpochOf(%d, %d): got %d, %d, want %d", c.slot, c.perEpoch, n, e, c.epoch)
		}
	}
}

// P1.2: the first slots of epochs, up to the greatest epoch whose start is a number.
func TestStartOf(t *testing.T) {
	cases := []struct {
		epoch, perEpoch uint64
		slot            uint64
		e               api.Errno
	}{
		{0, 1, 0, api.OK}, {7, 1, 7, api.OK}, {most, 1, most, api.OK},
		{0, 4, 0, api.OK}, {1, 4, 4, api.OK}, {2, 4, 8, api.OK}, {1, 64, 64, api.OK},
		{most / 3, 3, most, api.OK}, {most/3 + 1, 3, 0, api.ErrOverflow},
		{1<<63 - 1, 2, most - 1, api.OK}, {1 << 63, 2, 0, api.ErrOverflow},
		{1<<58 - 1, 64, most - 63, api.OK}, {1 << 58, 64, 0, api.ErrOverflow},
		{most, 64, 0, api.ErrOverflow},
	}
	for _, c := range cases {
		if n, e := StartOf(c.epoch, c.perEpoch); n != c.slot || e != c.e {
			t.Errorf("StartOf(%d, %d): got %d, %d, want %d, %d", c.epoch, c.perEpoch, n, e, c.slot, c.e)
		}
	}
}

// P1.2: a slot is a start exactly if perEpoch divides it.
func TestIsStart(t *testing.T) {
	for perEpoch := uint64(1); perEpoch <= api.MaxEpochSlots; perEpoch++ {
		for slot := uint64(0); slot <= 3*api.MaxEpochSlots; slot++ {
			divides := slot/perEpoch*perEpoch == slot
			if IsStart(slot, perEpoch) != divides {
				t.Errorf("IsStart(%d, %d): want %v", slot, perEpoch, divides)
			}
		}
	}
	if !IsStart(most, 1) || !IsStart(most, 3) || !IsStart(1<<63, 64) || IsStart(most, 2) || IsStart(most, 64) {
		t.Error("IsStart of slots above MaxSlot")
	}
}

// P1.2: lengths of epochs that are out of range; StartOf reports them before an overflow.
func TestLengthsOutOfRange(t *testing.T) {
	for _, perEpoch := range []uint64{0, api.MaxEpochSlots + 1, 2 * api.MaxEpochSlots, 1 << 32, 1 << 63, most} {
		for _, n := range []uint64{0, 1, perEpoch, most} {
			if got, e := EpochOf(n, perEpoch); got != 0 || e != api.ErrRange {
				t.Errorf("EpochOf(%d, %d): got %d, %d", n, perEpoch, got, e)
			}
			if got, e := StartOf(n, perEpoch); got != 0 || e != api.ErrRange {
				t.Errorf("StartOf(%d, %d): got %d, %d", n, perEpoch, got, e)
			}
			if IsStart(n, perEpoch) {
				t.Errorf("IsStart(%d, %d) is true", n, perEpoch)
			}
		}
	}
}

// P1.3: the epoch of the start of an epoch is that epoch.
func TestEpochOfStart(t *testing.T) {
	for perEpoch := uint64(1); perEpoch <= api.MaxEpochSlots; perEpoch++ {
		last := most / perEpoch
		for _, epoch := range []uint64{0, 1, 2, 3, 64, 65, 1000, last / 2, last - 1, last} {
			start, e := StartOf(epoch, perEpoch)
			if e != api.OK || !IsStart(start, perEpoch) {
				t.Errorf("StartOf(%d, %d): got %d, %d", epoch, perEpoch, start, e)
			}
			if got, e := EpochOf(start, perEpoch); got != epoch || e != api.OK {
				t.Errorf("EpochOf(%d, %d): got %d, %d, want %d", start, perEpoch, got, e, epoch)
			}
		}
	}
}

// P1.3: the start of the epoch of a slot is less than perEpoch slots before it.
func TestStartOfEpoch(t *testing.T) {
	slots := slices.Clone(numbers)
	for slot := uint64(0); slot <= 3*api.MaxEpochSlots; slot++ {
		slots = append(slots, slot, most-slot)
	}
	for perEpoch := uint64(1); perEpoch <= api.MaxEpochSlots; perEpoch++ {
		for _, slot := range slots {
			epoch, e := EpochOf(slot, perEpoch)
			if e != api.OK {
				t.Fatalf("EpochOf(%d, %d): got %d", slot, perEpoch, e)
			}
			start, e := StartOf(epoch, perEpoch)
			if e != api.OK || start > slot || slot-start >= perEpoch {
				t.Errorf("StartOf(EpochOf(%d), %d): got %d, %d", slot, perEpoch, start, e)
			}
		}
	}
}
