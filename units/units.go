// Package units is layer 1: checked arithmetic, slots and epochs.
package units

import (
	"math/bits"

	"forkhead/api"
)

// Add returns a + b, or ErrOverflow if that is above 2^64 - 1.
func Add(a uint64, b uint64) (uint64, api.Errno) {
	sum, carry := bits.Add64(a, b, 0)
	if carry != 0 {
		return 0, api.ErrOverflow
	}
	return sum, api.OK
}

// Sub returns a - b, or ErrOverflow if that is negative.
func Sub(a uint64, b uint64) (uint64, api.Errno) {
	if a < b {
		return 0, api.ErrOverflow
	}
	return a - b, api.OK
}

// Mul returns the product of a and b, or ErrOverflow if that is above 2^64 - 1.
func Mul(a uint64, b uint64) (uint64, api.Errno) {
	high, low := bits.Mul64(a, b)
	if high != 0 {
		return 0, api.ErrOverflow
	}
	return low, api.OK
}

// Sum returns the sum of all arguments, or ErrOverflow if that is above 2^64 - 1.
func Sum(l ...uint64) (uint64, api.Errno) {
	total := uint64(0)
	for _, n := range l {
		next, e := Add(total, n)
		if e != api.OK {
			return 0, e
		}
		total = next
	}
	return total, api.OK
}

// EpochOf returns the epoch that contains slot, or ErrRange if an epoch cannot have perEpoch slots.
func EpochOf(slot uint64, perEpoch uint64) (uint64, api.Errno) {
	if !isEpochLength(perEpoch) {
		return 0, api.ErrRange
	}
	return slot / perEpoch, api.OK
}

// StartOf returns the first slot of epoch. The errors are ErrRange (an epoch cannot have perEpoch slots), then
// ErrOverflow (the slot is above 2^64 - 1).
func StartOf(epoch uint64, perEpoch uint64) (uint64, api.Errno) {
	if !isEpochLength(perEpoch) {
		return 0, api.ErrRange
	}
	return Mul(epoch, perEpoch)
}

// IsStart reports whether an epoch can have perEpoch slots and slot is the first one of its epoch.
func IsStart(slot uint64, perEpoch uint64) bool {
	return isEpochLength(perEpoch) && slot%perEpoch == 0
}

// isEpochLength reports whether an epoch can have n slots.
func isEpochLength(n uint64) bool {
	return n >= 1 && n <= api.MaxEpochSlots
}
