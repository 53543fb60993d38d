// Package grain is layer 1: numbers told by their bits (which kind, which neighbours, which order), and binary32 and back.
package grain

import (
	"cmp"
	"math"
)

// The kinds of numbers.
const (
	Nought  = 1 // 0 of either sign
	Small   = 2 // subnormal
	Plain   = 3 // normal
	Endless = 4 // infinite
	None    = 5 // no number, a NaN
)

// The one NaN of each width: math.NaN has other bits.
const (
	nanBits   = 0x7ff8000000000000
	nanBits32 = 0x7fc00000
)

// Class: the kind of x.
func Class(x float64) int {
	b := math.Float64bits(x)
	return kind(b>>52&0x7ff, b&(1<<52-1), 0x7ff)
}

// Class32: the kind of x.
func Class32(x float32) int {
	b := math.Float32bits(x)
	return kind(uint64(b>>23&0xff), uint64(b&(1<<23-1)), 0xff)
}

// kind: of the number with these bits of exponent and fraction; full is the exponent whose bits are all set.
func kind(exponent, fraction, full uint64) int {
	switch {
	case exponent == full && fraction != 0:
		return None
	case exponent == full:
		return Endless
	case exponent != 0:
		return Plain
	case fraction != 0:
		return Small
	}
	return Nought
}

// Canon: the NaN for any NaN, else x itself.
func Canon(x float64) float64 {
	if math.IsNaN(x) {
		return math.Float64frombits(nanBits)
	}
	return x
}

// Next: the least number above x, both noughts being one number.
func Next(x float64) float64 {
	switch {
	case math.IsNaN(x):
		return Canon(x)
	case math.IsInf(x, 1):
		return x
	case x == 0: // the bits of -0 have no neighbour that is one above it
		return math.Float64frombits(1)
	case x > 0:
		return math.Float64frombits(math.Float64bits(x) + 1)
	}
	return math.Float64frombits(math.Float64bits(x) - 1)
}

// Prev: the greatest number below x, both noughts being one number.
func Prev(x float64) float64 {
	if math.IsNaN(x) { // ahead of the negation, which would give it a sign
		return Canon(x)
	}
	return -Next(-x)
}

// Ulp: how far the magnitude of x lies from the number next to it.
func Ulp(x float64) float64 {
	a := math.Abs(x)
	switch {
	case math.IsNaN(a) || math.IsInf(a, 1):
		return math.Float64frombits(nanBits)
	case a == math.MaxFloat64: // above it is no finite number
		return a - Prev(a)
	}
	return Next(a) - a
}

// Order: -1, 0 or 1, as a comes ahead of b, stands at the same place, or comes behind it.
func Order(a, b float64) int {
	return cmp.Compare(place(a), place(b))
}

// place: a whole number that rises as Order does: -1 for -0, 0 for +0, one for all NaNs.
func place(x float64) int64 {
	b := math.Float64bits(Canon(x))
	if b>>63 == 1 { // the bits of numbers below 0 rise as these fall
		return ^int64(b &^ (1 << 63))
	}
	return int64(b)
}

// Narrow: the number of binary32 nearest to x, ties to even.
func Narrow(x float64) float32 {
	if math.IsNaN(x) { // which bits a conversion of a NaN has is left open
		return math.Float32frombits(nanBits32)
	}
	return float32(x)
}

// Wide: the same number in binary64.
func Wide(x float32) float64 {
	return Canon(float64(x))
}

// Rest: what Narrow leaves of x; 0, where one of the two isn't finite.
func Rest(x float64) float64 {
	w := Wide(Narrow(x))
	if math.IsNaN(w) || math.IsInf(w, 0) { // so it is, where x isn't finite
		return 0
	}
	return x - w
}

// Fit: is x 0, or of a magnitude from 2^-200 to 2^200?
func Fit(x float64) bool {
	a := math.Abs(x)
	return a == 0 || 0x1p-200 <= a && a <= 0x1p200
}
