package sign

import (
	"math/bits"

	"huddle/api"
)

// order is after how many times powers of G come round: what they are raised to is reckoned modulo this, and not modulo P.
const order = api.P - 1

// modulus is a number modulo which others are reckoned: P for powers, and order for what they are raised to, which chapter 1's field can not do.
type modulus uint64

// sum is a sum of any two numbers.
func (m modulus) sum(a, b uint64) uint64 {
	low, high := bits.Add64(a, b, 0)
	return bits.Rem64(high, low, uint64(m))
}

// product is a product of any two numbers.
func (m modulus) product(a, b uint64) uint64 {
	high, low := bits.Mul64(a, b)
	return bits.Rem64(high, low, uint64(m))
}

// power is a, n times.
func (m modulus) power(a, n uint64) uint64 {
	power := uint64(1)
	for square := a; n > 0; n >>= 1 {
		if n&1 == 1 {
			power = m.product(power, square)
		}
		square = m.product(square, square)
	}
	return power
}
