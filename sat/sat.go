// Package sat is layer 1: checked arithmetic. It is specified in shared/doc/01-sat.md.
package sat

import (
	"heavykeys/api"
)

// most is the greatest number of 64 bits: what a result is that exceeds it.
const most uint64 = 1<<64 - 1

// Add returns the sum and true, or the greatest number and false if the sum exceeds it.
func Add(a, b uint64) (uint64, bool) {
	if a > most-b {
		return most, false
	}
	return a + b, true
}

// Sub returns the difference and true, or 0 and false if it would be negative.
func Sub(a, b uint64) (uint64, bool) {
	if a < b {
		return 0, false
	}
	return a - b, true
}

// Mul returns the product and true, or the greatest number and false if the product exceeds it.
func Mul(a, b uint64) (uint64, bool) {
	// The quotient is rounded down, which loses nothing: a is a whole number.
	if b != 0 && a > most/b {
		return most, false
	}
	return a * b, true
}

// Fits reports whether a window of the weight total has room for the weight w.
func Fits(total, w uint64) bool {
	// The room is compared with w, because the sum itself may wrap around.
	if total > api.MaxTotal {
		return false
	}
	return w <= api.MaxTotal-total
}

// Share returns one of equal parts of total, rounded down; all of total is one part if parts is less than 1.
func Share(total uint64, parts int) uint64 {
	if parts < 1 {
		return total
	}
	return total / uint64(parts)
}
