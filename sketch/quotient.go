package sketch

import (
	"slices"

	"huddle/field"
	"huddle/poly"
)

// quotient are two monic polynomials without a common factor: if any two lists fit two sketches, their polynomials are these. (It does not look whether such lists are there.)
func quotient(a, b Sketch) (f, g []uint64, ok bool) {
	degreeF, degreeG, ok := degrees(a, b)
	if !ok {
		return nil, nil, false
	}
	l, ok := solve(equations(a, b, degreeF, degreeG), degreeF+degreeG)
	if !ok {
		return nil, nil, false
	}
	f, g = slices.Concat(l[:degreeF], []uint64{1}), l[degreeF:]
	// What solves the equations is the fitting lists' polynomials, both times a same one if they have lesser degrees.
	common := poly.Gcd(f, g)
	f, _ = poly.DivMod(f, common)
	g, _ = poly.DivMod(g, common)
	return f, g, true
}

// degrees are the greatest numbers of elements that two lists which fit may have.
func degrees(a, b Sketch) (degreeF, degreeG int, ok bool) {
	together, more := len(a.V)-2, a.N-b.N
	if more > together || more < -together {
		return 0, 0, false
	}
	degreeF = (together + more) / 2
	return degreeF, degreeF - more, true
}

// equations are those of two monic polynomials, the unknowns their coefficients, but the last: at each point the first one times b's value is the second one times a's.
func equations(a, b Sketch, degreeF, degreeG int) [][]uint64 {
	rows := make([][]uint64, len(a.V))
	for k := range rows {
		x := point(k)
		f := powers(x, b.V[k], degreeF+1)
		g := powers(x, field.Neg(a.V[k]), degreeG+1)
		known := field.Add(f[degreeF], g[degreeG])
		rows[k] = slices.Concat(f[:degreeF], g[:degreeG], []uint64{known})
	}
	return rows
}

// powers are the first n powers of a number, from 1 on, each some times.
func powers(x, times uint64, n int) []uint64 {
	l := make([]uint64, n)
	for i := range l {
		l[i] = times
		times = field.Mul(times, x)
	}
	return l
}

// elements are the roots of a polynomial that is not 0; it is told whether these are elements, and as many as its degree.
func elements(f []uint64) ([]uint64, bool) {
	l := poly.Roots(f)
	for _, root := range l {
		if root < 1 || root > greatest {
			return nil, false
		}
	}
	return l, len(l) == len(f)-1
}
