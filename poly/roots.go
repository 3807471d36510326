package poly

import (
	"math/bits"
	"slices"

	"huddle/api"
	"huddle/field"
)

// half is what a number is raised to, so that it is 1 just if the number is a square that is not 0.
const half = (api.P - 1) / 2

// Roots are all roots in the field, rising, each once.
func Roots(a []uint64) []uint64 {
	a = Trim(a)
	if len(a) == 0 {
		return nil
	}
	var roots []uint64
	// split finds the roots of a product of x less some numbers, no two the same.
	var split func(f []uint64, k uint64)
	split = func(f []uint64, k uint64) {
		switch len(f) {
		case 1:
			return
		case 2:
			roots = append(roots, field.Neg(f[0]))
			return
		}
		// Of two numbers, there is a k such that one, and k, is a square and the other one is not.
		some := Gcd(f, Add(power(k, half, f), []uint64{api.P - 1}))
		others, _ := DivMod(f, some)
		split(some, k+1)
		split(others, k+1)
	}
	// All numbers of the field are roots of x^P less x, each once.
	split(Gcd(a, Add(power(0, api.P, a), []uint64{0, api.P - 1})), 0)
	slices.Sort(roots)
	return roots
}

// power is x and k, raised to n, modulo a trimmed polynomial that is not 0.
func power(k, n uint64, modulo []uint64) []uint64 {
	_, raised := divide([]uint64{1}, modulo)
	for bit := bits.Len64(n) - 1; bit >= 0; bit-- {
		_, raised = divide(product(raised, raised), modulo)
		if n>>bit&1 == 1 {
			_, raised = divide(withRoot(raised, field.Neg(k)), modulo)
		}
	}
	return raised
}
