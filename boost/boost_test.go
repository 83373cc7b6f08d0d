package boost

import (
	"math"
	"math/big"
	"math/rand"
	"slices"
	"testing"

	"forkhead/api"
)

// config returns a configuration with these numbers, and other fields that Amount has nothing to do with.
func config(slots, percent uint64) api.Config {
	return api.Config{SlotsPerEpoch: slots, BoostPercent: percent, Balances: []uint64{5, api.MaxTotal}}
}

// checkAmount checks what Amount returns.
func checkAmount(t *testing.T, slots, percent, total, want uint64) {
	t.Helper()
	if got, e := Amount(config(slots, percent), total); got != want || e != api.OK {
		t.Errorf("%d slots, %d percent, total %d: got %d, %d, want %d", slots, percent, total, got, e, want)
	}
}

// refuseAmount checks that Amount returns ErrRange alone.
func refuseAmount(t *testing.T, slots, percent, total uint64) {
	t.Helper()
	if got, e := Amount(config(slots, percent), total); got != 0 || e != api.ErrRange {
		t.Errorf("%d slots, %d percent, total %d: got %d, %d", slots, percent, total, got, e)
	}
}

// amountOf is P15.1, for numbers in their ranges.
func amountOf(slots, percent, total uint64) uint64 {
	n := new(big.Int).SetUint64(total)
	n.Div(n, new(big.Int).SetUint64(slots))
	n.Mul(n, new(big.Int).SetUint64(percent))
	return n.Div(n, big.NewInt(100)).Uint64()
}

// P15.1: example 1, and ordinary numbers by hand.
func TestAmount(t *testing.T) {
	checkAmount(t, 4, 40, 1000, 100)
	checkAmount(t, 32, 40, 32*1000, 400)
	checkAmount(t, 1, 100, 12345, 12345)
	checkAmount(t, 2, 1, 200, 1)
	checkAmount(t, 64, 50, 6400, 50)
	checkAmount(t, 4, 0, 1000, 0)
	checkAmount(t, 4, 40, 0, 0)
	checkAmount(t, 1, 0, 0, 0)
}

// P15.1: both quotients are rounded down, each for itself, the share of a slot first.
func TestAmountRoundsDown(t *testing.T) {
	checkAmount(t, 4, 40, 1003, 100)
	checkAmount(t, 1, 99, 1, 0)
	checkAmount(t, 1, 99, 2, 1)
	checkAmount(t, 1, 50, 199, 99)
	checkAmount(t, 1, 1, 99, 0)
	checkAmount(t, 1, 1, 199, 1)
	checkAmount(t, 64, 100, 63, 0)
	checkAmount(t, 64, 100, 127, 1)
	// With the share of a slot not rounded down, each of these would be greater by 1.
	checkAmount(t, 4, 99, 7, 0)
	checkAmount(t, 4, 40, 11, 0)
	checkAmount(t, 2, 75, 3, 0)
	checkAmount(t, 64, 66, 127, 0)
	checkAmount(t, 64, 51, 255, 1)
}

// P15.1, R7: totals whose product with the percentage is above 2^64 - 1, which the amount is not.
func TestGreatAmount(t *testing.T) {
	checkAmount(t, 1, 100, api.MaxTotal, api.MaxTotal)
	checkAmount(t, 1, 50, api.MaxTotal, api.MaxTotal/2)
	checkAmount(t, 64, 100, api.MaxTotal, api.MaxTotal/64)
	checkAmount(t, 64, 25, api.MaxTotal, api.MaxTotal/256)
	checkAmount(t, 1, 0, api.MaxTotal, 0)
	checkAmount(t, 1, 100, api.MaxTotal-1, api.MaxTotal-1)
	checkAmount(t, 1, 99, api.MaxTotal, 4565569158243114024)
	checkAmount(t, 64, 99, api.MaxTotal, 71337018097548656)
	// 2^64 - 1 divided by 100, and its neighbours.
	for n := uint64(184467440737095515); n <= 184467440737095517; n++ {
		checkAmount(t, 1, 100, n, n)
		checkAmount(t, 2, 100, 2*n+1, n)
		checkAmount(t, 1, 99, n, amountOf(1, 99, n))
	}
}

// P15.1: all lengths of epochs with all percentages.
func TestAmountOfAllConfigs(t *testing.T) {
	totals := []uint64{0, 1, 63, 64, 99, 100, 101, 6399, 6400, 12345, 1 << 56, api.MaxTotal / 3, api.MaxTotal - 1, api.MaxTotal}
	for slots := uint64(1); slots <= api.MaxEpochSlots; slots++ {
		for percent := range uint64(101) {
			for _, total := range totals {
				checkAmount(t, slots, percent, total, amountOf(slots, percent, total))
			}
		}
	}
}

// P15.1: all small totals, and random ones of all sizes.
func TestAmountOfManyTotals(t *testing.T) {
	random := rand.New(rand.NewSource(1))
	for total := range uint64(2000) {
		slots, percent := 1+random.Uint64()%api.MaxEpochSlots, random.Uint64()%101
		checkAmount(t, slots, percent, total, amountOf(slots, percent, total))
		checkAmount(t, 3, percent, total, amountOf(3, percent, total))
		checkAmount(t, slots, 40, total, amountOf(slots, 40, total))
		great := random.Uint64() % (api.MaxTotal + 1) >> (total % 62)
		checkAmount(t, slots, percent, great, amountOf(slots, percent, great))
	}
}

// P15.1: each number just out of its range, far out of it, and together with others.
func TestAmountOutOfRange(t *testing.T) {
	for _, slots := range []uint64{0, api.MaxEpochSlots + 1, 1 << 32, 1<<63 + 1, math.MaxUint64} {
		refuseAmount(t, slots, 40, 1000)
		refuseAmount(t, slots, 0, 0)
		refuseAmount(t, slots, 101, api.MaxTotal+1)
	}
	for _, percent := range []uint64{101, 200, 1<<32 + 40, 1 << 63, math.MaxUint64} {
		refuseAmount(t, 4, percent, 1000)
		refuseAmount(t, 4, percent, 0)
		refuseAmount(t, 1, percent, api.MaxTotal)
		refuseAmount(t, 0, percent, 1000)
	}
	for _, total := range []uint64{api.MaxTotal + 1, 1 << 63, math.MaxUint64} {
		refuseAmount(t, 4, 40, total)
		refuseAmount(t, 64, 0, total)
		refuseAmount(t, 1, 100, total)
		refuseAmount(t, 65, 100, total)
	}
	refuseAmount(t, 0, 0, 0)
}

// P15.1, R2: only the two numbers of the configuration count, and nothing of it is changed.
func TestAmountOfOtherFields(t *testing.T) {
	balances := []uint64{1, 2, 3, 4}
	c := api.Config{SlotsPerEpoch: 4, BoostPercent: 40, TTD: api.Wide{9}, Genesis: api.Root{9}, Balances: balances[:2]}
	c.Limits = api.Limits{NodeLimit: -1, Backoff: 7}
	for _, x := range []api.Config{c, {SlotsPerEpoch: 4, BoostPercent: 40}} {
		if got, e := Amount(x, 1000); got != 100 || e != api.OK {
			t.Errorf("got %d, %d", got, e)
		}
	}
	if !slices.Equal(balances, []uint64{1, 2, 3, 4}) {
		t.Errorf("the balances became %d", balances)
	}
}
