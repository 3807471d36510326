package field_test

import (
	"math/big"
	"math/rand"
	"testing"

	"huddle/api"
	"huddle/field"
)

const p = api.P

// edges are small numbers, those about P and its multiples, and those at the end of a word.
func edges() []uint64 {
	l := []uint64{1 << 31, 1 << 32, 1<<32 - 1, 1 << 60, 1<<60 - 1, 1 << 61, 1 << 63, 1<<63 - 1, (p - 1) / 2, (p + 1) / 2, (p + 1) / 4}
	for k := range uint64(8) {
		l = append(l, k, 37+k, k*p+p-2, k*p+p-1, k*p+p, k*p+p+1, 1<<64-1-k)
	}
	return l
}

// samples are the edges, and others from all of a word and from the field.
func samples(others int) []uint64 {
	l, r := edges(), rand.New(rand.NewSource(61))
	for range others {
		n := r.Uint64()
		l = append(l, n, n%p, n>>40)
	}
	return l
}

func bigOf(n uint64) *big.Int { return new(big.Int).SetUint64(n) }

// modulo is a number of any size and sign, modulo P.
func modulo(n *big.Int) uint64 { return new(big.Int).Mod(n, bigOf(p)).Uint64() }

func same(t *testing.T, what string, got, want uint64, of ...uint64) {
	t.Helper()
	if got != want {
		t.Errorf("%s of %d: %d, not %d", what, of, got, want)
	}
}

// P1.1: Ok and Num.
func TestOkAndNum(t *testing.T) {
	for _, a := range samples(200) {
		if field.Ok(a) != (a < p) {
			t.Errorf("Ok of %d: %v", a, field.Ok(a))
		}
		same(t, "Num", field.Num(a), a%p, a)
	}
}

// P1.1: sums, differences, products and what is ahead of 0, of numbers that are P and more too.
func TestSumDifferenceProduct(t *testing.T) {
	l := samples(40)
	for _, a := range l {
		same(t, "Neg", field.Neg(a), modulo(new(big.Int).Neg(bigOf(a))), a)
		same(t, "Neg as Sub", field.Neg(a), field.Sub(0, a), a)
		for _, b := range l {
			same(t, "Add", field.Add(a, b), modulo(new(big.Int).Add(bigOf(a), bigOf(b))), a, b)
			same(t, "Sub", field.Sub(a, b), modulo(new(big.Int).Sub(bigOf(a), bigOf(b))), a, b)
			same(t, "Mul", field.Mul(a, b), modulo(new(big.Int).Mul(bigOf(a), bigOf(b))), a, b)
		}
	}
}

// P1.2: powers, of what is raised to 0, to more than P, and to all of a word.
func TestPow(t *testing.T) {
	l := samples(20)
	for _, a := range l {
		same(t, "Pow", field.Pow(a, 0), 1, a, 0)
		for _, n := range l {
			same(t, "Pow", field.Pow(a, n), new(big.Int).Exp(bigOf(a), bigOf(n), bigOf(p)).Uint64(), a, n)
		}
		times := uint64(1)
		for n := range uint64(70) {
			same(t, "Pow", field.Pow(a, n), times, a, n)
			times = field.Mul(times, a)
		}
	}
}

// P1.2: what is 1, times a number; 0 of 0, also if that is a multiple of P.
func TestInv(t *testing.T) {
	for _, a := range samples(300) {
		i := field.Inv(a)
		if !field.Ok(i) {
			t.Errorf("Inv of %d is none of the field: %d", a, i)
		}
		if a%p == 0 {
			same(t, "Inv", i, 0, a)
			continue
		}
		same(t, "Inv", i, new(big.Int).ModInverse(bigOf(a), bigOf(p)).Uint64(), a)
		same(t, "a times Inv", field.Mul(a, i), 1, a)
	}
}

// The chapter's examples.
func TestExamples(t *testing.T) {
	same(t, "Mul", field.Mul(1<<60, 2), 1, 1<<60, 2)
	same(t, "Inv", field.Inv(2), 1<<60, 2)
	same(t, "Neg", field.Neg(1), p-1, 1)
}

// P1.3: the laws of a field.
func TestField(t *testing.T) {
	l := samples(6)
	for _, a := range l {
		for _, b := range l {
			same(t, "sum turned round", field.Add(a, b), field.Add(b, a), a, b)
			same(t, "product turned round", field.Mul(a, b), field.Mul(b, a), a, b)
			same(t, "Sub behind Add", field.Sub(field.Add(a, b), b), field.Num(a), a, b)
			same(t, "Add behind Sub", field.Add(field.Sub(a, b), b), field.Num(a), a, b)
			back := field.Mul(field.Mul(a, b), field.Inv(b))
			if b%p == 0 {
				same(t, "Inv behind Mul of 0", back, 0, a, b)
			} else {
				same(t, "Inv behind Mul", back, field.Num(a), a, b)
			}
			for _, c := range l {
				same(t, "sum put otherwise", field.Add(field.Add(a, b), c), field.Add(a, field.Add(b, c)), a, b, c)
				same(t, "product put otherwise", field.Mul(field.Mul(a, b), c), field.Mul(a, field.Mul(b, c)), a, b, c)
				same(t, "product over a sum", field.Mul(a, field.Add(b, c)), field.Add(field.Mul(a, b), field.Mul(a, c)), a, b, c)
			}
		}
	}
}

// P1.4: Fermat's.
func TestFermat(t *testing.T) {
	for _, a := range samples(200) {
		same(t, "Pow to P", field.Pow(a, p), a%p, a)
		want := uint64(1)
		if a%p == 0 {
			want = 0
		}
		same(t, "Pow to P - 1", field.Pow(a, p-1), want, a)
	}
}

// P1.4: powers of one number are multiplied by adding what they are raised to.
func TestPowersMultiplied(t *testing.T) {
	l := samples(4)
	for _, a := range l {
		for _, m := range l {
			for _, n := range l {
				product := field.Mul(field.Pow(a, m), field.Pow(a, n))
				if sum := m + n; sum >= m { // one that no word holds can not be handed in
					same(t, "Pow to a sum", field.Pow(a, sum), product, a, m, n)
				}
				if a%p != 0 {
					same(t, "Pow to a sum modulo P - 1", field.Pow(a, (m%(p-1)+n%(p-1))%(p-1)), product, a, m, n)
				}
			}
		}
	}
}

// P1.5: Euler's: half of all that are not 0 are squares, each one's root by Pow, as P is 3 modulo 4.
func TestEuler(t *testing.T) {
	for _, a := range samples(300) {
		euler := field.Pow(a, (p-1)/2)
		root := field.Pow(a, (p+1)/4)
		square := field.Mul(root, root) == field.Num(a)
		switch {
		case a%p == 0:
			same(t, "Euler", euler, 0, a)
		case square:
			same(t, "Euler of a square", euler, 1, a)
			same(t, "Euler of a square, ahead of 0", field.Pow(field.Neg(a), (p-1)/2), p-1, a)
		default:
			same(t, "Euler of no square", euler, p-1, a)
		}
		if square != (big.Jacobi(bigOf(a), bigOf(p)) != -1) {
			t.Errorf("is %d a square? %v", a, square)
		}
		if a%p != 0 {
			same(t, "Euler of a times a", field.Pow(field.Mul(a, a), (p-1)/2), 1, a)
		}
	}
}
