package sketch_test

import (
	"fmt"
	"math"
	"math/rand"
	"slices"
	"testing"

	"huddle/api"
	"huddle/field"
	"huddle/poly"
	"huddle/sketch"
)

// at are the first n points.
func at(n int) []uint64 {
	var xs []uint64
	for k := range uint64(n) {
		xs = append(xs, p-1-k)
	}
	return xs
}

// fits tells whether two lists fit two sketches, word for word.
func fits(a, b sketch.Sketch, onlyA, onlyB []uint64) bool {
	n, seen := len(a.V), map[uint64]bool{}
	for _, element := range slices.Concat(onlyA, onlyB) {
		if seen[element] || element < 1 || element > greatest {
			return false
		}
		seen[element] = true
	}
	if len(onlyA)+len(onlyB) > n-2 || len(onlyA)-len(onlyB) != a.N-b.N {
		return false
	}
	for k, x := range at(n) {
		if product(a.V[k], value(onlyB, x)) != product(b.V[k], value(onlyA, x)) {
			return false
		}
	}
	return true
}

// fitting are the two lists that fit two sketches of as many values, or ErrDiff. They are found by Euclid's way: of the polynomial that is 0 at all points, and the one that is there what the one sketch has, divided by what the other one has. Of what that way meets only the first of a degree that is low enough may be the fitting lists', but for a factor.
func fitting(a, b sketch.Sketch) (onlyA, onlyB []uint64, e api.Errno) {
	n, more := len(a.V), a.N-b.N
	if more > n-2 || -more > n-2 {
		return nil, nil, api.ErrDiff
	}
	var ys []uint64
	for k := range a.V {
		ys = append(ys, field.Mul(a.V[k], field.Inv(b.V[k])))
	}
	f, next := poly.Of(at(n)), poly.From(at(n), ys)
	var g, times []uint64
	for times = []uint64{1}; len(f)-1 > (n-2+more)/2; {
		quotient, left := poly.DivMod(f, next)
		f, next = next, left
		g, times = times, poly.Add(g, poly.Mul([]uint64{p - 1}, poly.Mul(quotient, times)))
	}
	onlyA, onlyB = poly.Roots(f), poly.Roots(g)
	if len(onlyA) != len(f)-1 || len(onlyB) != len(g)-1 || !fits(a, b, onlyA, onlyB) {
		return nil, nil, api.ErrDiff
	}
	return onlyA, onlyB, api.OK
}

// P10.2: of sets that differ in more elements than are told apart, in one more and in many more, what fits, if anything does.
func TestTooMany(t *testing.T) {
	for _, n := range []int{2, 3, 4, 5, 6, 7, 8, 12, 16, 32, 63, points} {
		t.Run(fmt.Sprint(n), func(t *testing.T) {
			t.Parallel()
			for _, d := range []int{n - 1, n, n + 1, n + 2, n + 3, n + 4, n + 5, 2*n - 1, 2 * n, 2*n + 7, 300} {
				for i, ownA := range sides(d) {
					l, m := halves(kind(d+[]int{0, 2, 100}[i%3], d+i), ownA, d-ownA)
					differ(t, l, m, n)
					if d < n+4 {
						// Two pairs of lists, the one of d elements, the other one of no more than n less 2, are not the same at n points then: their products' difference has not that degree.
						tells(t, "too many", sketch.Of(l, n), sketch.Of(m, n), nil, nil, api.ErrDiff)
					}
				}
			}
		})
	}
}

// P10.2: no list fits sketches of no value, or of one: not even those of no element, as none is more than n less 2.
func TestTooFewValues(t *testing.T) {
	for _, n := range []int{0, 1} {
		for _, l := range sets() {
			tells(t, "a set and itself", sketch.Of(l, n), sketch.Of(l, n), nil, nil, api.ErrDiff)
			for _, m := range sets() {
				tells(t, "two sets", sketch.Of(l, n), sketch.Of(m, n), nil, nil, api.ErrDiff)
			}
		}
	}
}

// made are two sets, much unlike, of which the one's values are the other one's times some quotients, as many as there are. The one has so many elements, which are more than these, and so many more than the other one.
func made(t *testing.T, quotients []uint64, size, more int) (l, m []uint64) {
	t.Helper()
	xs, chance := at(len(quotients)), rand.New(rand.NewSource(int64(size)))
	for range 100000 {
		m = make([]uint64, size-more)
		for i := range m {
			m[i] = 1 + chance.Uint64()%greatest
		}
		ys := of(poly.Of(m), poly.Of(nil), len(xs))
		for k := range ys {
			ys[k] = product(ys[k], quotients[k])
		}
		// What is 0 at all points may be added, times anything: so its degree is that size.
		zero := poly.Of(xs)
		for len(zero) <= size {
			zero = poly.Mul(zero, []uint64{chance.Uint64(), 1})
		}
		l = poly.Roots(poly.Add(zero, poly.From(xs, ys)))
		if len(l) == size && l[0] > 0 && l[size-1] <= greatest {
			return l, m
		}
	}
	t.Fatalf("no sets are met whose values have the quotients %d", quotients)
	return nil, nil
}

// sizeOf is how many elements a set needs, so that its values are those of another one times those of f, divided by those of g, though it is not f times that one, divided by g.
func sizeOf(n int, g []uint64) int { return n + 1 - min(1, len(g)-1) }

// of are the quotients of two polynomials at the first n points.
func of(f, g []uint64, n int) []uint64 {
	var l []uint64
	for _, x := range at(n) {
		l = append(l, field.Mul(poly.Eval(f, x), field.Inv(poly.Eval(g, x))))
	}
	return l
}

// P10.2: sets that differ in more elements, and that two lists fit all the same: these are told.
func TestOthersFit(t *testing.T) {
	for _, x := range []struct {
		n            int
		onlyA, onlyB []uint64
	}{
		{2, nil, nil}, {3, nil, nil}, {4, nil, nil},
		{3, []uint64{7}, nil}, {3, nil, []uint64{greatest}}, {4, []uint64{1}, nil}, {5, nil, []uint64{1 << 40}},
		{4, []uint64{1}, []uint64{greatest}}, {4, []uint64{3, 9}, nil}, {4, nil, []uint64{1, greatest}},
		{5, []uint64{12345}, []uint64{6, 77}}, {5, nil, []uint64{1, 2, greatest}}, {5, []uint64{1 << 59}, []uint64{1 << 58}},
	} {
		t.Run(fmt.Sprint(x), func(t *testing.T) {
			t.Parallel()
			f, g := poly.Of(x.onlyA), poly.Of(x.onlyB)
			l, m := made(t, of(f, g, x.n), sizeOf(x.n, g), len(f)-len(g))
			a, b := sketch.Of(l, x.n), sketch.Of(m, x.n)
			if d := len(without(l, m)) + len(without(m, l)); d <= x.n-2 || !fits(a, b, x.onlyA, x.onlyB) {
				t.Fatalf("%d and %d were not made to fit %d and %d", l, m, x.onlyA, x.onlyB)
			}
			tells(t, "made to fit", a, b, x.onlyA, x.onlyB, api.OK)
			differ(t, l, m, x.n)
		})
	}
}

// nothing holds that no lists fit two sets of which the one has so many elements more, and whose values have some quotients.
func nothing(t *testing.T, quotients []uint64, size, more int) {
	t.Helper()
	l, m := made(t, quotients, size, more)
	a, b := sketch.Of(l, len(quotients)), sketch.Of(m, len(quotients))
	for k, v := range a.V {
		if v != product(b.V[k], quotients[k]) {
			t.Fatalf("%d and %d were not made to have the quotients %d", l, m, quotients)
		}
	}
	tells(t, "made to fit nothing", a, b, nil, nil, api.ErrDiff)
	differ(t, l, m, len(quotients))
}

// P10.2: sets that differ in more elements, and whose values have the quotients of two polynomials that are not two lists': nothing fits.
func TestNoLists(t *testing.T) {
	one := poly.Of(nil)
	for name, x := range map[string]struct {
		f, g    []uint64
		n, more int
	}{
		"0":                       {poly.Of([]uint64{0}), one, 3, 1},
		"0, and another one":      {poly.Of([]uint64{0, 5}), one, 4, 2},
		"0 of the other":          {poly.Of([]uint64{5}), poly.Of([]uint64{0}), 4, 0},
		"above 2^60":              {poly.Of([]uint64{greatest + 1}), one, 3, 1},
		"above 2^60, and another": {poly.Of([]uint64{greatest + 1}), poly.Of([]uint64{3}), 4, 0},
		"one beside the points":   {poly.Of([]uint64{p - 5}), one, 3, 1},
		"one twice":               {poly.Of([]uint64{9, 9}), one, 4, 2},
		"one twice of the other":  {poly.Of([]uint64{4}), poly.Of([]uint64{9, 9}), 5, -1},
		"no roots":                {[]uint64{1, 0, 1}, one, 4, 2},
		"some without roots":      {one, poly.Mul(poly.Of([]uint64{5}), []uint64{1, 0, 1}), 5, -3},
		"three of four values":    {poly.Of([]uint64{5, 6}), poly.Of([]uint64{7}), 4, 1},
		"none more, but one":      {poly.Of([]uint64{7}), one, 4, 0},
		"one more, but none":      {one, one, 4, 1},
		"two more, but one":       {poly.Of([]uint64{7}), one, 4, 2},
		"twice the other one":     {[]uint64{2}, one, 4, 0},
		"twice one more":          {[]uint64{p - 10, 2}, one, 4, 1},
	} {
		t.Run(name, func(t *testing.T) {
			t.Parallel()
			nothing(t, of(x.f, x.g, x.n), sizeOf(x.n, x.g), x.more)
		})
	}
}

// P10.2: lists that fit at all points but one do not fit.
func TestAllPointsButOne(t *testing.T) {
	for _, x := range []struct {
		n            int
		onlyA, onlyB []uint64
	}{{2, nil, nil}, {3, nil, nil}, {4, nil, nil}, {3, []uint64{7}, nil}, {4, []uint64{1}, []uint64{greatest}}, {5, []uint64{7}, nil}, {5, nil, []uint64{greatest}}} {
		for k := range x.n {
			t.Run(fmt.Sprint(x, k), func(t *testing.T) {
				t.Parallel()
				quotients := of(poly.Of(x.onlyA), poly.Of(x.onlyB), x.n)
				quotients[k] = product(quotients[k], 2)
				nothing(t, quotients, x.n, len(x.onlyA)-len(x.onlyB))
			})
		}
	}
}

// Sketches that no set has end, and panic nowhere; what is told of them fits.
func TestNoSketches(t *testing.T) {
	chance := rand.New(rand.NewSource(1))
	numbers := []uint64{0, 1, p - 1, p, p + 1, math.MaxUint64}
	amounts := []int{0, 1, 2, -1, -2, math.MaxInt, math.MaxInt - 1, math.MinInt, math.MinInt + 1}
	for n := range 8 {
		for range 300 {
			s := [2]sketch.Sketch{}
			for i := range s {
				s[i].N = amounts[chance.Intn(len(amounts))]
				for range n {
					s[i].V = append(s[i].V, numbers[chance.Intn(len(numbers))])
				}
			}
			x, y, e := sketch.Diff(s[0], s[1])
			if e == api.OK && !fits(s[0], s[1], x, y) || e != api.OK && (e != api.ErrDiff || len(x)+len(y) > 0) {
				t.Fatalf("Diff of %d: %d; %d; %d", s, x, y, e)
			}
		}
	}
}

// P10.2: one set has more elements than any lists that fit could have, and the values are those of two sets that are the same.
func TestFarMore(t *testing.T) {
	for _, more := range []int{2, 3, 7, many, math.MaxInt, math.MinInt, -2, -many} {
		for _, n := range []int{0, 1, 2, 3} {
			a, b := sketch.Of(nil, n), sketch.Of(nil, n)
			a.N = more
			tells(t, "far more", a, b, nil, nil, api.ErrDiff)
		}
	}
}
