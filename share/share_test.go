package share_test

import (
	"math"
	"math/big"
	"math/rand"
	"slices"
	"testing"

	"huddle/api"
	"huddle/share"
)

const (
	p    = api.P
	most = 100 // shares, and coefficients
)

// sum and product are those of two numbers, modulo P, by big integers.
func sum(a, b uint64) uint64 {
	n := new(big.Int).SetUint64(a)
	n.Add(n, new(big.Int).SetUint64(b))
	return n.Mod(n, big.NewInt(p)).Uint64()
}

func product(a, b uint64) uint64 {
	n := new(big.Int).SetUint64(a)
	n.Mul(n, new(big.Int).SetUint64(b))
	return n.Mod(n, big.NewInt(p)).Uint64()
}

// minus is what is 0 together with a number; under is 1, divided by one that is not 0.
func minus(a uint64) uint64 { return (p - a%p) % p }

func under(a uint64) uint64 {
	n := new(big.Int).SetUint64(a)
	return n.ModInverse(n, big.NewInt(p)).Uint64()
}

// value is a polynomial's value: a sum of powers.
func value(f []uint64, x uint64) uint64 {
	all, power := uint64(0), uint64(1)
	for _, c := range f {
		all = sum(all, product(c, power))
		power = product(power, x)
	}
	return all
}

// least is the polynomial of the least degree that has all shares (no two at one place): of each share x less all other places, times what makes that the share's V at its own place, all of these together.
func least(l []api.Share) []uint64 {
	all := []uint64{1}
	for _, s := range l {
		all = with(all, s.At)
	}
	f := make([]uint64, len(l))
	for _, s := range l {
		others := without(all, s.At)
		times := product(s.V, under(value(others, s.At)))
		for i, c := range others {
			f[i] = sum(f[i], product(c, times))
		}
	}
	return f
}

// with is a polynomial times x less a number.
func with(f []uint64, root uint64) []uint64 {
	l := append([]uint64{0}, f...)
	for i, c := range f {
		l[i] = sum(l[i], product(c, minus(root)))
	}
	return l
}

// without is a polynomial divided by x less one of its roots.
func without(f []uint64, root uint64) []uint64 {
	l := make([]uint64, len(f)-1)
	over := uint64(0)
	for i := len(l) - 1; i >= 0; i-- {
		over = sum(f[i+1], product(over, root))
		l[i] = over
	}
	return l
}

// edges are small numbers, those about P and its multiples, and those at the end of a word.
func edges() []uint64 {
	l := []uint64{0, 1, 2, 3, 37, 1 << 60, 1 << 63, math.MaxUint64 - 1, math.MaxUint64}
	for k := uint64(1); k <= 8; k++ {
		l = append(l, k*p-1, k*p, k*p+1)
	}
	return append(l, p-2, p/2, 1234567890123456789)
}

// some are so many numbers from all of a word, others for each seed; some of them are 0 modulo P, or small.
func some(n int, seed int64) []uint64 {
	l, chance := make([]uint64, n), rand.New(rand.NewSource(seed))
	for i := range l {
		switch chance.Intn(8) {
		case 0:
			l[i] = p * uint64(chance.Intn(9))
		case 1:
			l[i] = uint64(chance.Intn(5))
		default:
			l[i] = chance.Uint64()
		}
	}
	return l
}

// coefficients are none, one, several, and as many as there may be; all of them 0 too, and just the last ones.
func coefficients() [][]uint64 {
	l := [][]uint64{nil, {}, {0}, {p}, {7, 0}, {0, 0, p, 5}, {p - 1, p + 1, 2*p + 3}, make([]uint64, most), slices.Repeat([]uint64{p - 1}, most), slices.Repeat([]uint64{math.MaxUint64}, most)}
	for _, c := range edges() {
		l = append(l, []uint64{c}, []uint64{3, c})
	}
	for _, n := range []int{2, 3, 5, 10, most - 1, most} {
		l = append(l, some(n, int64(n)))
	}
	return l
}

// split are the shares at the first numbers, by sums of powers.
func split(secret uint64, coefs []uint64, n int) []api.Share {
	var l []api.Share
	f := append([]uint64{secret}, coefs...)
	for i := range max(0, n) {
		at := uint64(i + 1)
		l = append(l, api.Share{At: at, V: value(f, at)})
	}
	return l
}

// splits holds what Split tells.
func splits(t *testing.T, secret uint64, coefs []uint64, n int, want []api.Share) {
	t.Helper()
	if got := share.Split(secret, coefs, n); !slices.Equal(got, want) {
		t.Fatalf("Split(%d, %d, %d): %d, and not %d", secret, coefs, n, got, want)
	}
}

// tells holds what shares tell at a number; at 0 by Join, too.
func tells(t *testing.T, what string, l []api.Share, at, want uint64) {
	t.Helper()
	if got, e := share.At(l, at); got != want || e != api.OK {
		t.Fatalf("%s: At(%d, %d): %d, %d, and not %d", what, l, at, got, e, want)
	}
	if at != 0 {
		return
	}
	if got, e := share.Join(l); got != want || e != api.OK {
		t.Fatalf("%s: Join(%d): %d, %d, and not %d", what, l, got, e, want)
	}
}

// P9.1: the shares of all kinds of secrets and coefficients.
func TestSplit(t *testing.T) {
	for _, coefs := range coefficients() {
		for _, secret := range edges() {
			splits(t, secret, coefs, 3, split(secret, coefs, 3))
		}
		for _, secret := range some(3, 1) {
			splits(t, secret, coefs, 10, split(secret, coefs, 10))
		}
		splits(t, math.MaxUint64, coefs, most, split(math.MaxUint64, coefs, most))
	}
}

// P9.1: each number of shares, from none to as many as there may be.
func TestSplitCounts(t *testing.T) {
	for _, coefs := range [][]uint64{nil, {9}, {p + 4, 0, p}, some(20, 2), some(most, 3)} {
		all := split(p-3, coefs, most)
		for n := range most + 1 {
			splits(t, p-3, coefs, n, all[:n])
		}
		for _, n := range []int{-1, -2, -most, math.MinInt32, math.MinInt + 1, math.MinInt} {
			splits(t, p-3, coefs, n, nil)
		}
	}
}

// P9.1: one more or less of P, in a secret or a coefficient, is the same.
func TestSplitModulo(t *testing.T) {
	for place := range 5 {
		for _, n := range []uint64{0, 1, 5, p - 1} {
			f := []uint64{3, 1 << 60, 7, p - 2, 11}
			f[place] = n
			want := split(f[0], f[1:], 12)
			for k := uint64(1); k <= 7; k++ {
				f[place] = n + k*p
				splits(t, f[0], f[1:], 12, want)
			}
		}
	}
}

// A number of shares that nothing has room for ends, and panics nowhere.
func TestSplitBeyond(t *testing.T) {
	for _, n := range []int{math.MaxInt, math.MaxInt - 1, 1 << 60, 1 << 40} {
		splits(t, 5, []uint64{2}, n, nil)
	}
}

// places are so many numbers, no two the same modulo P, and none 0: the first ones, the last ones, some that are far apart, and these with P's added as far as a word has room.
func places(n int) [][]uint64 {
	l := make([][]uint64, 4)
	power := uint64(1)
	for i := range uint64(n) {
		power = product(power, 37)
		l[0] = append(l[0], i+1)
		l[1] = append(l[1], p-1-i)
		l[2] = append(l[2], power)
		l[3] = append(l[3], power+i%8*p)
	}
	return l
}

// values are so many numbers: any, all 0, all one number, those of a line, and those of P and more.
func values(n int, seed int64) [][]uint64 {
	l := [][]uint64{some(n, seed), make([]uint64, n), slices.Repeat([]uint64{p}, n), slices.Repeat([]uint64{p + 5}, n), nil, nil}
	for i := range uint64(n) {
		l[4] = append(l[4], 7+3*i)
		l[5] = append(l[5], math.MaxUint64-i*i)
	}
	return l
}

// shares are those at some places, with some values.
func shares(at, v []uint64) []api.Share {
	l := make([]api.Share, len(at))
	for i := range l {
		l[i] = api.Share{At: at[i], V: v[i]}
	}
	return l
}

// listed are shares that are written one behind the other: At, V, At, V, and so on.
func listed(numbers ...uint64) []api.Share {
	var l []api.Share
	for pair := range slices.Chunk(numbers, 2) {
		l = append(l, api.Share{At: pair[0], V: pair[1]})
	}
	return l
}

// rows are the same shares in unlike rows.
func rows(l []api.Share) [][]api.Share {
	back, mixed, halves := slices.Clone(l), slices.Clone(l), slices.Concat(l[len(l)/2:], l[:len(l)/2])
	slices.Reverse(back)
	rand.New(rand.NewSource(int64(len(l)))).Shuffle(len(l), func(i, j int) { mixed[i], mixed[j] = mixed[j], mixed[i] })
	return [][]api.Share{l, back, mixed, halves}
}

// P9.2: what shares tell at 0, at their own numbers, at others and at numbers of P and more, in whatever row they are.
func TestAt(t *testing.T) {
	for _, n := range []int{1, 2, 3, 4, 7, 20} {
		for i, at := range places(n) {
			for _, v := range values(n, int64(10*n+i)) {
				l := shares(at, v)
				f := least(l)
				asked := slices.Concat(edges(), some(3, int64(n)), at)
				for _, row := range rows(l) {
					for _, x := range asked {
						tells(t, "asked", row, x, value(f, x))
					}
				}
			}
		}
	}
}

// P9.2: of as many shares as there may be.
func TestAtOfMany(t *testing.T) {
	for i, at := range places(most) {
		for _, v := range values(most, int64(i)) {
			l := shares(at, v)
			f := least(l)
			for _, row := range rows(l) {
				for _, x := range []uint64{0, p, 8 * p, 1, p - 1, p + 2, 1<<60 + 5, math.MaxUint64, at[0], at[most/2], at[most-1]} {
					tells(t, "many", row, x, value(f, x))
				}
			}
		}
	}
}

// P9.2: at a share's own number its own value is told, whatever there is else.
func TestOwn(t *testing.T) {
	for _, n := range []int{1, 2, 5, 30, most} {
		for i, at := range places(n) {
			l := shares(at, some(n, int64(i+n)))
			for _, s := range l {
				tells(t, "its own", l, s.At, s.V%p)
				tells(t, "its own, modulo P", l, s.At%p, s.V%p)
				tells(t, "its own, and P", l, s.At%p+p, s.V%p)
			}
		}
	}
}

// P9.2: the number of shares up to as many as there may be; one more in its row changes nothing, if it is what they told there.
func TestAtCounts(t *testing.T) {
	l := shares(places(most)[3], some(most, 77))
	for n := 1; n <= most; n++ {
		f := least(l[:n])
		tells(t, "so many", l[:n], 0, value(f, 0))
		tells(t, "so many", l[:n], p+9, value(f, 9))
		if n < most {
			told := slices.Concat(l[:n], []api.Share{{At: l[n].At, V: value(f, l[n].At)}})
			tells(t, "with what they told", told, 0, value(f, 0))
			tells(t, "with what they told", told, p+9, value(f, 9))
		}
	}
}

// P9.2: an At or a V with P's added is the same one.
func TestAtModulo(t *testing.T) {
	l := []api.Share{{At: 1, V: 3}, {At: 7, V: 0}, {At: p - 1, V: p - 1}, {At: 1 << 60, V: 5}}
	f := least(l)
	for i, s := range l {
		for k := range uint64(7) {
			other := slices.Clone(l)
			other[i] = api.Share{At: s.At + k*p, V: s.V + (6-k)*p}
			for _, x := range []uint64{0, 1, 2, 7, p - 1, p, 1 << 60, math.MaxUint64} {
				tells(t, "modulo P", other, x, value(f, x))
			}
		}
	}
}

// P9.1, P9.2: numbers that were worked out elsewhere.
func TestWrittenOut(t *testing.T) {
	splits(t, 5, []uint64{2}, 3, listed(1, 7, 2, 9, 3, 11))
	splits(t, 1234567890123456789, []uint64{987654321987654321, 1 << 60, p - 1, 3}, 6, listed(1, 1069300707504264137, 2, 904033524885071522, 3, 738766342265879046, 4, 573499159646686883, 5, 408231977027495279, 6, 242964794408304552))
	splits(t, math.MaxUint64, []uint64{math.MaxUint64, p, 1 << 63}, 5, listed(1, 18, 2, 53, 3, 136, 4, 291, 5, 542))
	splits(t, p, []uint64{p - 1, p + 1}, 4, listed(1, 0, 2, 2, 3, 6, 4, 12))
	asked := []uint64{0, 1, 2, p - 1, p, 1 << 60, math.MaxUint64}
	for _, x := range []struct {
		l    []api.Share
		told []uint64
	}{
		{listed(1, 7, 3, 11), []uint64{5, 7, 9, 3, 5, 6, 19}},
		{listed(7, 123456789012345678, 2, 5, 1<<60, p-1, p-1, 0), []uint64{1180987622281673701, 1637264944535063349, 5, 0, 1180987622281673701, p - 1, 123456789012345678}},
		{listed(math.MaxUint64, math.MaxUint64, p+1, p, 1<<63, 1<<62), []uint64{0, 0, 1537228672809129301, 1537228672809129301, 0, 672537544353994069, 7}},
		{listed(4, 1, 9, 1, 25, 1), []uint64{1, 1, 1, 1, 1, 1, 1}},
		{listed(3, 0, 5, 0), make([]uint64, 7)},
		{listed(11, 77), []uint64{77, 77, 77, 77, 77, 77, 77}},
	} {
		for i, at := range asked {
			tells(t, "written", x.l, at, x.told[i])
		}
	}
}

// The chapter's examples.
func TestExamples(t *testing.T) {
	l := share.Split(5, []uint64{2}, 3)
	if want := listed(1, 7, 2, 9, 3, 11); !slices.Equal(l, want) {
		t.Fatalf("Split(5, 2, 3): %d", l)
	}
	tells(t, "the last two", l[1:], 0, 5)
}

// P9.3: the share of both, where the Ats are the same, modulo P too.
func TestAdd(t *testing.T) {
	all := append(edges(), some(4, 5)...)
	for _, at := range all {
		for _, v := range all {
			for _, w := range all {
				adds(t, api.Share{At: at, V: v}, api.Share{At: at, V: w})
			}
		}
		for k := range uint64(7) {
			adds(t, api.Share{At: at%p + k*p, V: at}, api.Share{At: at%p + (6-k)*p, V: 9})
		}
	}
}

// adds holds the sum of two shares that are at one place.
func adds(t *testing.T, a, b api.Share) {
	t.Helper()
	want := api.Share{At: a.At % p, V: sum(a.V, b.V)}
	if got, e := share.Add(a, b); got != want || e != api.OK {
		t.Fatalf("Add(%d, %d): %d, %d, and not %d", a, b, got, e, want)
	}
}
