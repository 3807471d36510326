package poly_test

import (
	"math/big"
	"math/rand"
	"slices"
	"testing"

	"huddle/api"
	"huddle/field"
	"huddle/poly"
)

const (
	p    = api.P
	most = 300 // numbers of a list
)

// edges are small numbers, those about P and its multiples, and those at the end of a word.
func edges() []uint64 {
	l := []uint64{0, 1, 2, 3, 37, 1 << 60, 1<<64 - 1}
	for k := uint64(1); k < 8; k++ {
		l = append(l, k*p+p-1, k*p+p, k*p+p+1)
	}
	return append(l, p-2, p-1, p, p+1)
}

// some are so many numbers from all of a word, others for each seed; some of them are 0 modulo P.
func some(n int, seed int64) []uint64 {
	l, r := make([]uint64, n), rand.New(rand.NewSource(seed))
	for i := range l {
		switch r.Intn(8) {
		case 0:
			l[i] = p * uint64(r.Intn(8))
		case 1:
			l[i] = uint64(r.Intn(5))
		default:
			l[i] = r.Uint64()
		}
	}
	return l
}

// lists are polynomials that are 0, trimmed, with noughts behind, and with any numbers in every place.
func lists() [][]uint64 {
	l := [][]uint64{nil, {}, {0}, {p}, {0, 0, 0}, {p, 0, 2 * p}, make([]uint64, most), {5, 0}, {5, p, 0, 7 * p}, {0, 0, 1}, edges()}
	for place := range 4 {
		for _, n := range edges() {
			a := []uint64{1, 2, 3, 4}
			a[place] = n
			l = append(l, a, append(slices.Clone(a), n, p, 0))
		}
	}
	for _, n := range []int{1, 2, 3, 4, 5, 8, 13, 40, most - 1, most} {
		l = append(l, some(n, int64(n)), slices.Repeat([]uint64{p - 1}, n))
	}
	return l
}

// few are polynomials of up to a degree, to be combined with each other.
func few(n int) [][]uint64 {
	l := [][]uint64{nil, {0, p}, {1}, {p - 1}, {7}, {0, 1}, {1, 1, p}, {p + 3, 2*p + 5, 1<<64 - 1}, {0, 0, 4}}
	for i := range 10 {
		l = append(l, some(1+i*n/10, int64(100+i)))
	}
	return l
}

func bigOf(n uint64) *big.Int { return new(big.Int).SetUint64(n) }

func modulo(n *big.Int) uint64 { return new(big.Int).Mod(n, bigOf(p)).Uint64() }

// plain is a polynomial, trimmed.
func plain(l []*big.Int) []uint64 {
	var a []uint64
	for _, n := range l {
		a = append(a, modulo(n))
	}
	for len(a) > 0 && a[len(a)-1] == 0 {
		a = a[:len(a)-1]
	}
	return a
}

// room are so many noughts.
func room(n int) []*big.Int {
	l := make([]*big.Int, n)
	for i := range l {
		l[i] = new(big.Int)
	}
	return l
}

func wantAdd(a, b []uint64) []uint64 {
	l := room(max(len(a), len(b)))
	for i, n := range a {
		l[i].Add(l[i], bigOf(n))
	}
	for i, n := range b {
		l[i].Add(l[i], bigOf(n))
	}
	return plain(l)
}

func wantMul(a, b []uint64) []uint64 {
	l, one := room(len(a)+len(b)), new(big.Int)
	for i, m := range a {
		for k, n := range b {
			l[i+k].Add(l[i+k], one.Mul(bigOf(m), bigOf(n)))
		}
	}
	return plain(l)
}

// wantEval is a sum of powers.
func wantEval(a []uint64, x uint64) uint64 {
	sum, power := new(big.Int), big.NewInt(1)
	for _, c := range a {
		sum.Add(sum, new(big.Int).Mul(bigOf(c), power))
		power.Mul(power, bigOf(x)).Mod(power, bigOf(p))
	}
	return modulo(sum)
}

func wantTrim(a []uint64) []uint64 { return wantAdd(a, nil) }

// same holds a polynomial against the one that has to be told.
func same(t *testing.T, what string, got, want []uint64, of ...[]uint64) {
	t.Helper()
	if !slices.Equal(got, want) {
		t.Errorf("%s of %d: %d, not %d", what, of, got, want)
	}
}

// P5.1: Trim.
func TestTrim(t *testing.T) {
	for _, a := range lists() {
		same(t, "Trim", poly.Trim(a), wantTrim(a), a)
	}
	same(t, "Trim", poly.Trim([]uint64{p, 1<<64 - 1, p - 1, 2*p + 4, 0, 3 * p}), []uint64{0, 7, p - 1, 4})
}

// P5.1: sums, of lists of unlike lengths too, and sums that lose degrees.
func TestAdd(t *testing.T) {
	for _, a := range lists() {
		for _, b := range few(most) {
			same(t, "Add", poly.Add(a, b), wantAdd(a, b), a, b)
			same(t, "Add", poly.Add(b, a), wantAdd(a, b), b, a)
		}
		less := poly.Mul(a, []uint64{p - 1})
		same(t, "Add of what is ahead of 0", poly.Add(a, less), nil, a)
		same(t, "Add of what is ahead of 0, and 1", poly.Add(poly.Add(less, []uint64{1}), a), []uint64{1}, a)
	}
	same(t, "Add", poly.Add([]uint64{1, 2, 3, 4}, []uint64{5, 6, p - 3, 1<<64 - 1 - 11}), []uint64{6, 8})
	same(t, "Add", poly.Add([]uint64{0, p - 1, p}, []uint64{0, 1}), nil)
}

// P5.1: products, with 0, with constants, and of great degrees.
func TestMul(t *testing.T) {
	for _, a := range lists() {
		for _, zero := range [][]uint64{nil, {}, {0}, {p, 0, 7 * p}} {
			same(t, "Mul with 0", poly.Mul(a, zero), nil, a)
			same(t, "Mul with 0", poly.Mul(zero, a), nil, a)
		}
		same(t, "Mul with 1", poly.Mul(a, []uint64{p + 1, 0}), wantTrim(a), a)
		for _, b := range few(12) {
			same(t, "Mul", poly.Mul(a, b), wantMul(a, b), a, b)
			same(t, "Mul", poly.Mul(b, a), wantMul(a, b), b, a)
		}
	}
	a, b := some(most, 1), some(most, 2)
	a[most-1], b[most-1] = p-1, 1<<64-1
	long := poly.Mul(a, b)
	same(t, "Mul of great degrees", long, wantMul(a, b))
	if len(long) != 2*most-1 {
		t.Errorf("the product has %d coefficients", len(long))
	}
}

// P5.1: values, at 0, at numbers at and beyond P, and of 0.
func TestEval(t *testing.T) {
	for _, a := range lists() {
		for _, x := range append(edges(), some(3, 9)...) {
			if got, want := poly.Eval(a, x), wantEval(a, x); got != want {
				t.Errorf("Eval of %d at %d: %d, not %d", a, x, got, want)
			}
		}
	}
	for _, x := range edges() {
		for _, zero := range [][]uint64{nil, {}, {0}, {p, 2 * p}} {
			if got := poly.Eval(zero, x); got != 0 {
				t.Errorf("Eval of 0 at %d: %d", x, got)
			}
		}
	}
	for _, x := range []uint64{0, p, 7 * p} {
		if got := poly.Eval([]uint64{p + 9, 4, 5}, x); got != 9 {
			t.Errorf("Eval at %d: %d, not 9", x, got)
		}
	}
}

// P5.2: what a quotient and what is left are asked for, whatever is divided.
func TestDivMod(t *testing.T) {
	for _, a := range lists() {
		for _, b := range few(most) {
			checkDivMod(t, a, b)
			checkDivMod(t, b, a)
		}
	}
}

func checkDivMod(t *testing.T, a, b []uint64) {
	t.Helper()
	q, r := poly.DivMod(a, b)
	if len(wantTrim(b)) == 0 {
		if len(q) > 0 || len(r) > 0 {
			t.Errorf("DivMod of %d by 0: %d, %d", a, q, r)
		}
		return
	}
	same(t, "q, trimmed", q, wantTrim(q), a, b)
	same(t, "r, trimmed", r, wantTrim(r), a, b)
	same(t, "q times b, and r", poly.Add(poly.Mul(q, b), r), wantTrim(a), a, b)
	if len(r) >= len(wantTrim(b)) {
		t.Errorf("DivMod of %d by %d leaves too much: %d", a, b, r)
	}
}

// P5.2: by a constant, by a greater degree, with nothing left and with something.
func TestDivModShapes(t *testing.T) {
	for i, x := range []struct{ a, b, q, r []uint64 }{
		{a: []uint64{6, 4, 2}, b: []uint64{2}, q: []uint64{3, 2, 1}},
		{a: []uint64{6, 4, 1}, b: []uint64{p + 2, 0, p}, q: []uint64{3, 2, 1 << 60}},
		{a: []uint64{1, 2, 0}, b: []uint64{1, 2, 3}, r: []uint64{1, 2}},
		{a: []uint64{1, 2}, b: []uint64{p, p, p + 1}, r: []uint64{1, 2}},
		{a: []uint64{p, 0}, b: []uint64{3, 4}},
		{b: []uint64{5}},
		{a: []uint64{p - 1, 0, 1}, b: []uint64{1, 1}, q: []uint64{p - 1, 1}},
		{a: []uint64{0, 0, 1}, b: []uint64{1, 1}, q: []uint64{p - 1, 1}, r: []uint64{1}},
		{a: []uint64{0, 0, 0, 0, 4}, b: []uint64{0, 0, 2}, q: []uint64{0, 0, 2}},
		{a: []uint64{9, 0, 0, 0, 4}, b: []uint64{0, 0, 2}, q: []uint64{0, 0, 2}, r: []uint64{9}},
		{a: []uint64{1, 2, 3}, b: []uint64{0, 7 * p}},
		{a: nil, b: nil},
	} {
		q, r := poly.DivMod(x.a, x.b)
		if !slices.Equal(q, x.q) || !slices.Equal(r, x.r) {
			t.Errorf("%d: DivMod of %d by %d: %d, %d", i, x.a, x.b, q, r)
		}
	}
	for i, a := range few(most / 2) {
		b := append(some(20+i, int64(i)), 3)
		q, r := poly.DivMod(poly.Mul(a, b), b)
		same(t, "q of a product", q, wantTrim(a), a, b)
		same(t, "r of a product", r, nil, a, b)
		left := wantTrim(some(1+i, int64(i)))
		q, r = poly.DivMod(poly.Add(poly.Mul(a, b), left), b)
		same(t, "q of a product and something", q, wantTrim(a), a, b)
		same(t, "r of a product and something", r, left, a, b)
	}
}

// P5.2: Gcd of 0, of constants, and of two that have nothing in common.
func TestGcdShapes(t *testing.T) {
	for _, zero := range [][]uint64{nil, {}, {0}, {p, 0, 7 * p}} {
		same(t, "Gcd of 0 and 0", poly.Gcd(zero, []uint64{0, 0, p}), nil, zero)
		same(t, "Gcd of 0 and 0", poly.Gcd(nil, zero), nil, zero)
		for _, a := range lists() {
			want := monic(a)
			same(t, "Gcd with 0", poly.Gcd(a, zero), want, a, zero)
			same(t, "Gcd with 0", poly.Gcd(zero, a), want, zero, a)
			if len(want) > 0 {
				same(t, "Gcd with a constant", poly.Gcd(a, []uint64{8, p}), []uint64{1}, a)
				same(t, "Gcd with a constant", poly.Gcd([]uint64{8}, a), []uint64{1}, a)
			}
		}
	}
	same(t, "Gcd", poly.Gcd([]uint64{2, p - 3, 1}, []uint64{12, p - 7, 1}), []uint64{1})
	same(t, "Gcd", poly.Gcd([]uint64{2, p - 3, 1}, []uint64{6, p - 5, 1}), []uint64{p - 2, 1})
	same(t, "Gcd", poly.Gcd([]uint64{p + 4, 2}, []uint64{4, 4, 1, 0}), []uint64{2, 1})
	same(t, "Gcd of great degrees", poly.Gcd(poly.Of(numbers(0, most-1)), poly.Of(numbers(most, most-1))), []uint64{1})
}

// monic is a polynomial, divided by its last coefficient.
func monic(a []uint64) []uint64 {
	a = wantTrim(a)
	if len(a) == 0 {
		return nil
	}
	return wantMul(a, []uint64{modulo(new(big.Int).ModInverse(bigOf(a[len(a)-1]), bigOf(p)))})
}

// numbers are so many, from one on.
func numbers(from uint64, n int) []uint64 {
	l := make([]uint64, n)
	for i := range l {
		l[i] = from + uint64(i)
	}
	return l
}

// P5.2: Gcd of products whose common part is known.
func TestGcdOfProducts(t *testing.T) {
	ones, twos := poly.Of([]uint64{1, 2, 2, 9, p - 4}), poly.Of([]uint64{3, 5, 5, 5, p - 1})
	for _, c := range few(most / 2) {
		a, b := poly.Mul(poly.Mul(c, ones), []uint64{5}), poly.Mul(poly.Mul(twos, c), []uint64{7})
		same(t, "Gcd of products", poly.Gcd(a, b), monic(c), a, b)
		same(t, "Gcd of products", poly.Gcd(b, a), monic(c), b, a)
		same(t, "Gcd of one and a multiple", poly.Gcd(c, a), monic(c), c, a)
		same(t, "Gcd of one and itself", poly.Gcd(c, c), monic(c), c)
	}
	half, more := poly.Of(numbers(0, 200)), poly.Of(numbers(101, 199))
	same(t, "Gcd of great degrees", poly.Gcd(half, more), poly.Of(numbers(101, 99)))
}

// P5.3: From of no values, of not as many of both, and of two xs that are the same modulo P.
func TestFromNothing(t *testing.T) {
	for i, x := range []struct{ xs, ys []uint64 }{
		{},
		{xs: []uint64{}, ys: nil},
		{xs: []uint64{1}},
		{ys: []uint64{1}},
		{xs: []uint64{1, 2}, ys: []uint64{5}},
		{xs: []uint64{1, 2}, ys: []uint64{5, 6, 7}},
		{xs: []uint64{1, 1}, ys: []uint64{5, 5}},
		{xs: []uint64{1, 1}, ys: []uint64{5, 6}},
		{xs: []uint64{0, 3, p}, ys: []uint64{5, 6, 5}},
		{xs: []uint64{3, p - 1, 1<<64 - 1, p + 7}, ys: []uint64{1, 2, 3, 4}},
		{xs: []uint64{4, 5, 6, 4 + p}, ys: []uint64{0, 0, 0, 0}},
		{xs: append(numbers(0, most-1), 5*p+most/2), ys: numbers(0, most)},
		{xs: numbers(0, most), ys: make([]uint64, most-1)},
	} {
		if got := poly.From(x.xs, x.ys); len(got) > 0 {
			t.Errorf("%d: From of %d and %d: %d", i, x.xs, x.ys, got)
		}
	}
}

// P5.3: what From tells has the values, and is of the least degree.
func TestFrom(t *testing.T) {
	for _, n := range []int{1, 2, 3, 4, 7, 20, most} {
		xs := numbers(p-2, n)
		rand.New(rand.NewSource(int64(n))).Shuffle(n, func(i, j int) { xs[i], xs[j] = xs[j], xs[i] })
		line := make([]uint64, n)
		for i, x := range xs {
			line[i] = p + 5 - x%p
		}
		checkFrom(t, xs, some(n, 3), n)
		checkFrom(t, xs, make([]uint64, n), 0)
		checkFrom(t, xs, slices.Repeat([]uint64{p + 5}, n), 1)
		checkFrom(t, xs, line, 2)
	}
	same(t, "From", poly.From([]uint64{p, p + 1}, []uint64{2*p + 5, 1<<64 - 1}), []uint64{5, 2})
	same(t, "From", poly.From([]uint64{7}, []uint64{p}), nil)
	same(t, "From", poly.From([]uint64{7}, []uint64{p + 3}), []uint64{3})
	same(t, "From", poly.From([]uint64{1, 2, 3}, []uint64{1, 4, 9}), []uint64{0, 0, 1})
	same(t, "From", poly.From([]uint64{1, 2, 3, 4}, []uint64{1, 2, 3, 4}), []uint64{0, 1})
}

// checkFrom asks for a polynomial that has the values, of no more coefficients than some, or than there are values.
func checkFrom(t *testing.T, xs, ys []uint64, coefficients int) {
	t.Helper()
	got := poly.From(xs, ys)
	same(t, "From, trimmed", got, wantTrim(got), xs, ys)
	if len(got) > min(coefficients, len(xs)) {
		t.Errorf("From of %d and %d is too long: %d", xs, ys, got)
	}
	for i, x := range xs {
		if wantEval(got, x) != ys[i]%p {
			t.Errorf("From of %d and %d has not the value at %d: %d", xs, ys, x, got)
		}
	}
}

// P5.3: Of no root, of one, of one more than once, and of many.
func TestOf(t *testing.T) {
	for _, x := range []struct{ roots, want []uint64 }{
		{nil, []uint64{1}},
		{[]uint64{}, []uint64{1}},
		{[]uint64{0}, []uint64{0, 1}},
		{[]uint64{p}, []uint64{0, 1}},
		{[]uint64{5}, []uint64{p - 5, 1}},
		{[]uint64{1<<64 - 1}, []uint64{p - 7, 1}},
		{[]uint64{p - 1, p + p - 1}, []uint64{1, 2, 1}},
		{[]uint64{3, 3}, []uint64{9, p - 6, 1}},
		{[]uint64{2, 0, 2 + p, 2}, []uint64{0, p - 8, 12, p - 6, 1}},
		{make([]uint64, most-1), append(make([]uint64, most-1), 1)},
	} {
		same(t, "Of", poly.Of(x.roots), x.want, x.roots)
	}
	for _, roots := range lists() {
		want := []uint64{1}
		for _, r := range roots {
			want = wantMul(want, []uint64{p - r%p, 1})
		}
		same(t, "Of", poly.Of(roots), want, roots)
	}
}

// The chapter's examples.
func TestExamples(t *testing.T) {
	of := poly.Of([]uint64{1, 2})
	same(t, "Of", of, []uint64{2, p - 3, 1})
	same(t, "Roots", poly.Roots(of), []uint64{1, 2})
	same(t, "From", poly.From([]uint64{0, 1}, []uint64{5, 7}), []uint64{5, 2})
}

// P5.5: what divides both divides the Gcd; the Gcd divides both.
func TestEuclid(t *testing.T) {
	all := few(40)
	for _, a := range all {
		for _, b := range all {
			g := poly.Gcd(a, b)
			if len(wantTrim(a))+len(wantTrim(b)) == 0 {
				same(t, "Gcd of 0 and 0", g, nil, a, b)
				continue
			}
			if len(g) == 0 || g[len(g)-1] != 1 {
				t.Errorf("Gcd of %d and %d is not monic: %d", a, b, g)
			}
			divides(t, g, a)
			divides(t, g, b)
			same(t, "Gcd turned round", poly.Gcd(b, a), g, b, a)
			for _, c := range [][]uint64{{6}, poly.Of([]uint64{7, 7}), {4, 0, 9, 1}, some(15, 15)} {
				both := poly.Gcd(poly.Mul(a, c), poly.Mul(c, b))
				divides(t, c, both)
				same(t, "Gcd of multiples", both, monic(poly.Mul(g, c)), a, b, c)
			}
		}
	}
}

func divides(t *testing.T, b, a []uint64) {
	t.Helper()
	if _, r := poly.DivMod(a, b); len(r) > 0 || len(wantTrim(b)) == 0 {
		t.Errorf("%d does not divide %d", b, a)
	}
}

// P5.6: as many values tell a polynomial, wherever they are, and no other one has them.
func TestLagrange(t *testing.T) {
	for _, a := range append(few(60), some(most, 6), some(most-1, 7)) {
		for _, more := range []int{0, 1, 5} {
			n := min(most, len(a)+more)
			for _, xs := range [][]uint64{numbers(0, n), numbers(p-5, n), apart(n)} {
				ys := make([]uint64, n)
				for i, x := range xs {
					ys[i] = wantEval(a, x)
				}
				same(t, "From of values", poly.From(xs, ys), wantTrim(a), a, xs)
				if n > 0 {
					ys[n/2]++
					if other := poly.From(xs, ys); slices.Equal(other, wantTrim(a)) {
						t.Errorf("From of another value at %d is the same: %d", xs[n/2], a)
					}
				}
			}
		}
	}
}

// apart are so many numbers of which no two are the same modulo P: powers of G, some of them with P's added.
func apart(n int) []uint64 {
	l := make([]uint64, n)
	for i := range l {
		l[i] = field.Pow(api.G, uint64(i)) + uint64(i%7)*p
	}
	return l
}
