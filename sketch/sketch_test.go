package sketch_test

import (
	"math"
	"math/big"
	"math/rand"
	"slices"
	"testing"

	"huddle/api"
	"huddle/hash"
	"huddle/sketch"
)

const (
	p        = api.P
	greatest = 1 << 60       // element
	many     = 1 << 16       // elements of a set, at most
	points   = api.MaxPoints // values of a sketch, at most
)

// modulo is a sum, a product or a difference, modulo P.
func modulo(n *big.Int) uint64 { return n.Mod(n, big.NewInt(p)).Uint64() }

// value is the product of x less each element, by big integers.
func value(l []uint64, x uint64) uint64 {
	all, one, at := big.NewInt(1), new(big.Int), new(big.Int).SetUint64(x)
	prime := big.NewInt(p)
	for _, element := range l {
		all.Mul(all, one.Sub(at, one.SetUint64(element))).Mod(all, prime)
	}
	return all.Uint64()
}

// product is that of two numbers, modulo P.
func product(a, b uint64) uint64 {
	n := new(big.Int).SetUint64(a)
	return modulo(n.Mul(n, new(big.Int).SetUint64(b)))
}

// sketchOf is the sketch of a set, by big integers.
func sketchOf(l []uint64, n int) sketch.Sketch {
	s := sketch.Sketch{N: len(l)}
	for k := range n {
		s.V = append(s.V, value(l, uint64(p-1-k)))
	}
	return s
}

func equal(a, b sketch.Sketch) bool { return a.N == b.N && slices.Equal(a.V, b.V) }

// some are so many unlike elements, from all of them, others for each seed.
func some(n int, seed int64) []uint64 {
	chance, has := rand.New(rand.NewSource(seed)), map[uint64]bool{}
	l := make([]uint64, 0, n)
	for len(l) < n {
		element := 1 + chance.Uint64()%greatest
		if !has[element] {
			has[element] = true
			l = append(l, element)
		}
	}
	return l
}

// first and last are the first elements, and the last ones, the row turned.
func first(n int) []uint64 {
	l := make([]uint64, n)
	for i := range l {
		l[i] = uint64(i) + 1
	}
	return l
}

func last(n int) []uint64 {
	l := first(n)
	for i := range l {
		l[i] = greatest + 1 - l[i]
	}
	return l
}

// sets are empty, of one, several and many elements, 1 and 2^60 among them.
func sets() [][]uint64 {
	l := [][]uint64{nil, {}, {1}, {greatest}, {1, greatest}, {greatest, 1}, {3, 5, 8}, {5, 9}, {2, greatest - 1, 7}, {1 << 59}}
	for _, n := range []int{1, 2, 3, 5, 10, 100, 200} {
		l = append(l, first(n), last(n), some(n, int64(n)))
	}
	return append(l, slices.Concat([]uint64{greatest}, some(150, 5), []uint64{1}))
}

// asks holds what Of tells.
func asks(t *testing.T, l []uint64, n int, want sketch.Sketch) {
	t.Helper()
	if got := sketch.Of(l, n); !equal(got, want) {
		t.Fatalf("Of %d elements, at %d points: %d, and not %d", len(l), n, got, want)
	}
}

// P10.1: what Of tells of all kinds of sets, at none, one, several and as many points as there may be.
func TestOf(t *testing.T) {
	for _, l := range sets() {
		want := sketchOf(l, points)
		for _, n := range []int{0, 1, 2, 3, 5, 8, 31, points - 1, points} {
			asks(t, l, n, sketch.Sketch{N: len(l), V: want.V[:n]})
		}
	}
}

// P10.1: of as many elements as there may be.
func TestOfMany(t *testing.T) {
	l := slices.Concat([]uint64{1, greatest}, some(many, 7))[:many]
	want := sketchOf(l, points)
	for _, n := range []int{0, 1, 7, points} {
		asks(t, l, n, sketch.Sketch{N: many, V: want.V[:n]})
	}
}

// P10.1: values that were worked out elsewhere.
func TestOfWrittenOut(t *testing.T) {
	for _, x := range []struct{ l, v []uint64 }{
		{[]uint64{3, 5, 8}, []uint64{2305843009213693735, 2305843009213693601, 2305843009213693423, 2305843009213693195, 2305843009213692911}},
		{[]uint64{5, 9}, []uint64{60, 77, 96, 117, 140}},
		{nil, []uint64{1, 1, 1, 1, 1}},
		{[]uint64{1}, []uint64{2305843009213693949, 2305843009213693948, 2305843009213693947, 2305843009213693946, 2305843009213693945}},
		{[]uint64{greatest}, []uint64{1152921504606846974, 1152921504606846973, 1152921504606846972, 1152921504606846971, 1152921504606846970}},
		{[]uint64{1, greatest, 617283945061728394}, []uint64{453991174028508766, 2287899439678118883, 581396805990578246, 2252012300606968702, 382216895886208392}},
		{first(10), []uint64{39916800, 239500800, 1037836800, 3632428800, 10897286400}},
	} {
		asks(t, x.l, len(x.v), sketch.Sketch{N: len(x.l), V: x.v})
	}
}

// Numbers of points that no call may be asked for end, and panic nowhere.
func TestOfBeyond(t *testing.T) {
	for _, n := range []int{-1, -points, math.MinInt, math.MaxInt, 1 << 60, 1 << 40} {
		asks(t, []uint64{3, 5, 8}, n, sketch.Sketch{N: 3})
	}
}

// P10.4: a shorter sketch begins a longer one; the row of a set is nothing.
func TestRows(t *testing.T) {
	for i, l := range sets() {
		all := sketch.Of(l, points)
		mixed, back := slices.Clone(l), slices.Clone(l)
		slices.Reverse(back)
		rand.New(rand.NewSource(int64(i))).Shuffle(len(l), func(i, j int) { mixed[i], mixed[j] = mixed[j], mixed[i] })
		for n := range points + 1 {
			want := sketch.Sketch{N: len(l), V: all.V[:n]}
			for _, row := range [][]uint64{l, mixed, back} {
				asks(t, row, n, want)
			}
		}
	}
}

// P10.4: the values of two sets without a common element, times each other, are those of both together.
func TestTogether(t *testing.T) {
	for _, n := range []int{0, 1, 2, 5, 50, 200} {
		for _, m := range []int{0, 1, 3, 100} {
			both := slices.Concat([]uint64{1, greatest}, some(n+m, int64(n+m)))
			a, b := sketch.Of(both[:1+n], points), sketch.Of(both[1+n:], points)
			together := sketch.Of(both, points)
			if together.N != a.N+b.N {
				t.Errorf("%d and %d elements are %d", a.N, b.N, together.N)
			}
			for k, v := range together.V {
				if got := product(a.V[k], b.V[k]); got != v {
					t.Errorf("%d and %d elements, at point %d: %d, and not %d", a.N, b.N, k, got, v)
				}
			}
		}
	}
}

// names are as they hand in By and Seq: 0, small, the greatest, those about P, and those below 0.
func names() []int {
	return []int{0, 1, 2, 12, 200, math.MaxInt32, p - 1, p, p + 1, 3*p + 5, math.MaxInt - 1, math.MaxInt, -1, -2, -200, -p, -p - 1, math.MinInt + 1, math.MinInt}
}

// P10.1: what Elem tells of all kinds of names.
func TestElem(t *testing.T) {
	sums := []uint64{0, 1, 5, greatest - 1, greatest, greatest + 1, p - 1, p, p + 1, 7*p + 3, 1 << 63, math.MaxUint64, 1234567890123456789}
	for _, by := range names() {
		for _, seq := range names() {
			for _, sum := range sums {
				got := sketch.Elem(api.Ident{By: by, Seq: seq, Sum: sum})
				if want := 1 + hash.Of("elem", uint64(by), uint64(seq), sum)%greatest; got != want {
					t.Fatalf("Elem of %d, %d, %d: %d, and not %d", by, seq, sum, got, want)
				}
			}
		}
	}
}

// P10.1: elements that were worked out elsewhere; of sums made so that chapter 2's Of is 0, 1, about 2^60, and P - 1.
func TestElemWrittenOut(t *testing.T) {
	for _, x := range []struct {
		id   api.Ident
		want uint64
	}{
		{api.Ident{}, 996440652122131327},
		{api.Ident{By: 1, Seq: 1, Sum: 5}, 198649870075678097},
		{api.Ident{By: 12, Seq: 200, Sum: math.MaxUint64}, 27004066054931911},
		{api.Ident{By: 2, Seq: 1, Sum: p}, 446334631553093021},
		{api.Ident{By: -1, Seq: -1, Sum: 1}, 789317148332669388},
		{api.Ident{By: math.MinInt, Seq: math.MaxInt, Sum: p - 1}, 536154071137046020},
		{api.Ident{By: 3, Seq: -5, Sum: 1234567890123456789}, 301792179206316421},
		{api.Ident{By: 1, Seq: 2, Sum: 1954985662623811199}, 1},
		{api.Ident{By: 1, Seq: 2, Sum: 449381727441271188}, 2},
		{api.Ident{By: 1, Seq: 2, Sum: 71524829712919588}, greatest},
		{api.Ident{By: 1, Seq: 2, Sum: 569655315632017284}, 1},
		{api.Ident{By: 1, Seq: 2, Sum: 360371033515779532}, 2},
		{api.Ident{By: 1, Seq: 2, Sum: 1811433357285402431}, greatest - 1},
	} {
		if got := sketch.Elem(x.id); got != x.want {
			t.Errorf("Elem of %d: %d, and not %d", x.id, got, x.want)
		}
	}
}
