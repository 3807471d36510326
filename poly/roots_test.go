package poly_test

import (
	"math/big"
	"math/rand"
	"slices"
	"testing"

	"huddle/field"
	"huddle/poly"
)

// rising are numbers modulo P, rising, each once.
func rising(l []uint64) []uint64 {
	var all []uint64
	for _, n := range l {
		all = append(all, n%p)
	}
	slices.Sort(all)
	return slices.Compact(all)
}

// rootless are polynomials without a root: as -1 is no square modulo P, x times x and a square is never 0.
func rootless() [][]uint64 {
	l := [][]uint64{{1}, {p - 1}, {1, 0, 1}, {4, 0, 1}, {9 + p, p, 1, 0}, {5, 0, 5}, {2, 2, 1}}
	many := []uint64{3}
	for s := uint64(1); s < 10; s++ {
		many = poly.Mul(many, []uint64{field.Mul(s*s, s*s), 0, 1})
	}
	return append(l, many)
}

// P5.4: Roots of 0 and of constants.
func TestRootsOfConstants(t *testing.T) {
	for _, a := range [][]uint64{nil, {}, {0}, {p}, {0, p, 7 * p}, make([]uint64, 300), {1}, {p - 1}, {p + 1, 0}, {1<<64 - 1, p, 2 * p}, append([]uint64{5}, make([]uint64, 299)...)} {
		same(t, "Roots of a constant", poly.Roots(a), nil, a)
	}
}

// P5.4: of polynomials of degree 1, whatever their coefficients.
func TestRootsOfLines(t *testing.T) {
	for _, a := range edges() {
		for _, b := range edges() {
			if b%p == 0 {
				continue
			}
			want := modulo(new(big.Int).Mul(bigOf(p-a%p), new(big.Int).ModInverse(bigOf(b), bigOf(p))))
			same(t, "Roots", poly.Roots([]uint64{a, b}), []uint64{want}, []uint64{a, b})
			same(t, "Roots", poly.Roots([]uint64{a, b, p, 0}), []uint64{want}, []uint64{a, b})
		}
	}
}

// P5.4: of squares, as Euler tells how many there are.
func TestRootsOfSquares(t *testing.T) {
	two, none := 0, 0
	for seed := range int64(150) {
		a := some(3, seed)
		a[2] |= 1
		if a[2]%p == 0 {
			continue
		}
		d := new(big.Int).Sub(new(big.Int).Mul(bigOf(a[1]), bigOf(a[1])), new(big.Int).Mul(big.NewInt(4), new(big.Int).Mul(bigOf(a[0]), bigOf(a[2]))))
		d.Mod(d, bigOf(p))
		got := poly.Roots(a)
		if want := 1 + big.Jacobi(d, bigOf(p)); len(got) != want {
			t.Errorf("Roots of %d: %d, not %d of them", a, got, want)
		}
		areRoots(t, a, got)
		two, none = two+len(got)/2, none+(2-len(got))/2
	}
	if two < 20 || none < 20 {
		t.Errorf("too few of a kind: %d with two, %d with none", two, none)
	}
}

// areRoots asks that all are roots, numbers of the field, rising, each once, and no more than the degree.
func areRoots(t *testing.T, a, roots []uint64) {
	t.Helper()
	same(t, "Roots, rising, each once", roots, rising(roots), a)
	for _, r := range roots {
		if wantEval(a, r) != 0 {
			t.Errorf("%d is no root of %d", r, a)
		}
		divides(t, []uint64{p - r, 1}, a)
	}
	if a = wantTrim(a); len(a) > 0 && len(roots) >= len(a) {
		t.Errorf("%d has more roots than its degree: %d", a, roots)
	}
}

// P5.4: of products of known roots, once and more than once, 0 among them, beside what has no root.
func TestRootsOfProducts(t *testing.T) {
	for _, roots := range [][]uint64{
		nil, {0}, {1}, {p - 1}, {p}, {0, 0}, {0, 0, 0, 1}, {1, p - 1}, {3, 2, 1}, {5, 5, 5, 5, 5}, {p - 1, p - 2, 0, 1, 2}, {1<<64 - 1, 7, 7, 0, p, 1 << 60, 1 << 60},
		numbers(0, 20), numbers(p-10, 20), some(30, 30), slices.Repeat(some(9, 31), 3), {4, p - 4}, {4, 9, 16, 25, 36}, {p - 4, p - 9, p - 16},
	} {
		for _, none := range rootless() {
			a := poly.Mul(poly.Of(roots), none)
			same(t, "Roots", poly.Roots(a), rising(roots), roots, none)
			for i := range a {
				a[i] += p * uint64(i%7)
			}
			same(t, "Roots, of numbers beyond P and noughts behind", poly.Roots(append(a, 0, 3*p)), rising(roots), roots, none)
		}
	}
}

// P5.4: of great degrees.
func TestRootsOfGreatDegrees(t *testing.T) {
	r := rand.New(rand.NewSource(4))
	word := make([]uint64, 299)
	for i := range word {
		word[i] = r.Uint64()
	}
	for _, roots := range [][]uint64{word, numbers(0, 299), numbers(p-150, 299), make([]uint64, 299), slices.Repeat([]uint64{8}, 299), slices.Repeat(some(23, 5), 13)} {
		same(t, "Roots", poly.Roots(poly.Of(roots)), rising(roots), roots)
	}
	// 299 is 13 times 23, 275 divides P - 1, and 13 does: there are as many roots of x^n less 1 as n and P - 1 have in common.
	for n, want := range map[int]int{299: 13, 275: 275, 256: 2, 289: 1} {
		a := append([]uint64{p - 1}, make([]uint64, n)...)
		a[n] = 1
		got := poly.Roots(a)
		if len(got) != want {
			t.Errorf("x^%d less 1 has %d roots, not %d", n, len(got), want)
		}
		areRoots(t, a, got)
	}
	long := append(some(299, 6), 1)
	got := poly.Roots(long)
	areRoots(t, long, got)
	same(t, "all roots", poly.Of(got), factors(long))
	none := poly.Mul(poly.Of(numbers(50, 100)), slices.Concat([]uint64{1}, make([]uint64, 197), []uint64{1})) // x^198 and 1: a square and 1
	same(t, "Roots beside what has none", poly.Roots(none), numbers(50, 100))
}

// P5.4: roots that are squares, or are not, together with each of 0 up to 9, are told apart all the same.
func TestRootsThatAreAlike(t *testing.T) {
	like, r := map[string][]uint64{}, rand.New(rand.NewSource(10))
	for range 4000 {
		n, pattern := r.Uint64()%p, ""
		for k := range uint64(10) {
			pattern += string(rune('1' + big.Jacobi(bigOf((n+k)%p), bigOf(p))))
		}
		like[pattern] = append(like[pattern], n)
	}
	together := 0
	for _, l := range like {
		together = max(together, len(l))
		if len(l) > 2 {
			same(t, "Roots", poly.Roots(poly.Of(l)), rising(l), l)
		}
	}
	if together < 5 {
		t.Errorf("no more than %d numbers are alike", together)
	}
}

// factors is the product of x less each root of a polynomial, by x^P less x.
func factors(a []uint64) []uint64 {
	_, raised := poly.DivMod([]uint64{0, 1}, a)
	for range 60 { // P is 1, doubled, and 1, 60 times
		_, raised = poly.DivMod(poly.Mul(poly.Mul(raised, raised), []uint64{0, 1}), a)
	}
	return poly.Gcd(a, poly.Add(raised, []uint64{0, p - 1}))
}

// P5.7: no root is left out: x^P less x has all numbers of the field as roots.
func TestFermat(t *testing.T) {
	for _, x := range append(edges(), some(100, 8)...) {
		if field.Sub(field.Pow(x, p), x) != 0 {
			t.Errorf("%d is no root of x^P less x", x)
		}
	}
	with := 0
	for seed := range int64(120) {
		a := append(some(1+int(seed)%12, seed), 1)
		got := poly.Roots(a)
		areRoots(t, a, got)
		same(t, "product of x less each root", poly.Of(got), factors(a), a)
		if len(got) > 0 {
			with++
		}
	}
	if with < 30 || with > 110 {
		t.Errorf("%d of 120 have roots", with)
	}
}

// P5.7: x less a root divides, there are no more than the degree, and those of a product are those of both.
func TestFactors(t *testing.T) {
	all := append(rootless(), few(12)...)
	all = append(all, poly.Of([]uint64{1, 2, 3}), poly.Of([]uint64{3, 3, 0}), poly.Of(some(10, 12)))
	for _, a := range all {
		if len(wantTrim(a)) == 0 {
			continue
		}
		mine := poly.Roots(a)
		areRoots(t, a, mine)
		for _, b := range all {
			if len(wantTrim(b)) == 0 {
				same(t, "Roots of a product that is 0", poly.Roots(poly.Mul(a, b)), nil, a, b)
				continue
			}
			both := rising(slices.Concat(mine, poly.Roots(b)))
			same(t, "Roots of a product", poly.Roots(poly.Mul(a, b)), both, a, b)
		}
	}
}
