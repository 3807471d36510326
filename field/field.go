// Package field is layer 1: arithmetic modulo the prime 2^61 - 1: see shared/doc/01-field.md.
//
// Any number may be handed in: it is taken modulo the prime first. What is answered is from 0 to P - 1.
package field

import (
	"iter"
	"math/bits"

	"huddle/api"
)

// width is how many bits P has. All of them are 1, so 2^width is 1 modulo P:
// what stands above these bits may be added to what stands in them.
const width = 61

// Ok tells whether a number is one of the field.
func Ok(a uint64) bool { return a < api.P }

// Num is a number, modulo the prime.
func Num(n uint64) uint64 {
	n = n&api.P + n>>width
	if n >= api.P {
		n -= api.P
	}
	return n
}

// Add is a sum.
func Add(a, b uint64) uint64 { return Num(Num(a) + Num(b)) }

// Sub is a difference.
func Sub(a, b uint64) uint64 { return Num(Num(a) + api.P - Num(b)) }

// Neg is what is 0 together with a number.
func Neg(a uint64) uint64 { return Sub(0, a) }

// Mul is a product.
func Mul(a, b uint64) uint64 {
	// The product is below 2^122, so both of its parts of 61 bits, and their sum, fit in a word.
	high, low := bits.Mul64(Num(a), Num(b))
	return Num(low&api.P + (high<<(64-width) | low>>width))
}

// Pow is a power: a, n times. (n is not taken modulo anything.)
func Pow(a, n uint64) uint64 {
	power, square := uint64(1), Num(a)
	for one := range bitsOf(n) {
		if one {
			power = Mul(power, square)
		}
		square = Mul(square, square)
	}
	return power
}

// bitsOf hands out the bits of n, the least one first, up to the last that is 1.
func bitsOf(n uint64) iter.Seq[bool] {
	return func(yield func(bool) bool) {
		for rest := n; rest > 0; rest >>= 1 {
			if !yield(rest&1 == 1) {
				return
			}
		}
	}
}

// Inv is what is 1, times a number; 0 of 0.
func Inv(a uint64) uint64 {
	// A number that is not 0 is 1, raised to P - 1.
	return Pow(a, api.P-2)
}
