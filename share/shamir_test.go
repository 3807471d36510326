package share_test

import (
	"math/rand"
	"slices"
	"testing"

	"huddle/api"
	"huddle/share"
)

// whole holds shares to tell the secret and each share, in whatever row they are.
func whole(t *testing.T, what string, some, all []api.Share, secret uint64) {
	t.Helper()
	for _, row := range rows(some) {
		tells(t, what, row, 0, secret%p)
		for _, s := range all {
			tells(t, what, row, s.At, s.V)
		}
	}
}

// subsets are all rows of just those that a number's bits say.
func subsets(l []api.Share) [][]api.Share {
	var all [][]api.Share
	for bits := range 1 << len(l) {
		var some []api.Share
		for i, s := range l {
			if bits>>i&1 == 1 {
				some = append(some, s)
			}
		}
		all = append(all, some)
	}
	return all
}

// kinds are several subsets of so many: the first, the last, those in the middle, those with gaps, and some by chance.
func kinds(l []api.Share, n int) [][]api.Share {
	all := [][]api.Share{l[:n], l[len(l)-n:], l[(len(l)-n)/2:][:n]}
	var gaps []api.Share
	for i := range n {
		gaps = append(gaps, l[i*len(l)/n])
	}
	all = append(all, gaps)
	chance := rand.New(rand.NewSource(int64(n)))
	for range 3 {
		mixed := slices.Clone(l)
		chance.Shuffle(len(l), func(i, j int) { mixed[i], mixed[j] = mixed[j], mixed[i] })
		all = append(all, mixed[:n])
	}
	return all
}

// P9.4: of a few shares each subset that has enough tells the secret, and each other share; so do those with more than enough.
func TestEnough(t *testing.T) {
	for k := range 6 {
		for i, secret := range []uint64{0, 1, 5, p - 1, p + 3, 1234567890123456789} {
			coefs := some(k, int64(10*k+i))
			l := share.Split(secret, coefs, 7)
			for _, some := range subsets(l) {
				if len(some) > k {
					whole(t, "enough", some, l, secret)
				}
			}
		}
	}
}

// P9.4: each row of a few shares.
func TestEachRow(t *testing.T) {
	l := share.Split(77, []uint64{p - 5, 3, 1 << 60}, 5)
	var put func(row, left []api.Share)
	put = func(row, left []api.Share) {
		if len(row) > 3 {
			tells(t, "each row", row, 0, 77)
			tells(t, "each row", row, 5, l[4].V)
		}
		for i := range left {
			put(append(slices.Clone(row), left[i]), slices.Delete(slices.Clone(left), i, i+1))
		}
	}
	put(nil, l)
}

// P9.4: of as many shares as there may be, several kinds of subsets.
func TestEnoughOfMany(t *testing.T) {
	for _, k := range []int{0, 1, 2, 9, 49, 98, 99} {
		coefs, secret := some(k, int64(k)), uint64(p-7)
		l := share.Split(secret, coefs, most)
		for _, n := range []int{k + 1, min(k+2, most), (k + 1 + most) / 2, most} {
			for _, some := range kinds(l, n) {
				whole(t, "enough of many", some, l[n%7:n%7+3], secret)
			}
		}
		for _, s := range l {
			tells(t, "each other share", l[most-k-1:], s.At, s.V)
		}
	}
}

// P9.4: coefficients of 0 at the end are coefficients too: fewer shares are enough then, by what they are.
func TestZerosBehind(t *testing.T) {
	l := share.Split(9, []uint64{4, 0, p, 7 * p}, 6)
	for _, some := range subsets(l) {
		if len(some) > 1 {
			whole(t, "zeros behind", some, l, 9)
		}
	}
	for _, s := range share.Split(9, []uint64{0, p, 0}, 5) {
		whole(t, "zeros alone", []api.Share{s}, []api.Share{{At: 3, V: 9}, {At: p - 1, V: 9}}, 9)
	}
}

// others are secrets, each another one than the one that is said.
func others(secret uint64) []uint64 {
	var l []uint64
	for _, n := range append(edges(), sum(secret, 1), sum(secret, p-1), minus(secret), sum(secret, p/2)) {
		if n%p != secret%p {
			l = append(l, n%p)
		}
	}
	return l
}

// possible holds that another secret has just the same shares: as many coefficients with which Split tells these.
func possible(t *testing.T, few []api.Share, coefs int, other uint64) {
	t.Helper()
	// Where there are still fewer shares, some others may be as one likes.
	made := slices.Clone(few)
	for at := uint64(1000); len(made) < coefs; at++ {
		made = append(made, api.Share{At: at, V: at * at * 12345})
	}
	f := least(append(made, api.Share{At: 0, V: other}))
	if len(f) != coefs+1 || f[0] != other {
		t.Fatalf("%d coefficients through %d, for %d: %d", coefs, few, other, f)
	}
	l := share.Split(other, f[1:], most)
	for _, s := range few {
		if l[s.At-1] != s {
			t.Fatalf("Split(%d, %d) has %d, and not %d", other, f[1:], l[s.At-1], s)
		}
	}
	whole(t, "possible", append(slices.Clone(few), missing(l, few, coefs+1-len(few))...), nil, other)
}

// missing are so many of a list that are not among a few.
func missing(l, few []api.Share, n int) []api.Share {
	l = slices.DeleteFunc(slices.Clone(l), func(s api.Share) bool { return slices.Contains(few, s) })
	return l[len(l)-n:]
}

// P9.4: with one share fewer, and with fewer than that, each other secret is as possible.
func TestFewer(t *testing.T) {
	for k := 1; k <= 5; k++ {
		for i, secret := range []uint64{0, 5, p - 1, 1234567890123456789} {
			l := share.Split(secret, some(k, int64(20*k+i)), 6)
			for _, few := range subsets(l) {
				if len(few) <= k && (len(few) == k || k < 4) {
					for _, other := range others(secret) {
						possible(t, few, k, other)
					}
				}
			}
		}
	}
}

// P9.4: so it is of many.
func TestFewerOfMany(t *testing.T) {
	for _, k := range []int{9, 49, 99} {
		l := share.Split(5, some(k, int64(k)), most)
		for i, few := range kinds(l, k) {
			possible(t, few, k, []uint64{0, 1, 4, 6, p - 1, p / 2, 1234567890123456789}[i])
		}
	}
}

// P9.4: what fewer tell by themselves is the least polynomial's value: each secret comes out of some shares.
func TestFewerTell(t *testing.T) {
	met := 0
	for k := 1; k <= 6; k++ {
		l := share.Split(5, some(k, int64(31*k)), 7)
		for _, few := range subsets(l) {
			if len(few) == 0 || len(few) > k {
				continue
			}
			told := value(least(few), 0)
			tells(t, "fewer", few, 0, told)
			if told != 5 {
				met++
			}
		}
	}
	if met < 200 {
		t.Errorf("only %d lists of fewer tell something else", met)
	}
}

// added are two rows of shares, added one by one.
func added(t *testing.T, a, b []api.Share) []api.Share {
	t.Helper()
	l := make([]api.Share, len(a))
	for i := range a {
		one, e := share.Add(a[i], b[i])
		if e != api.OK {
			t.Fatalf("Add(%d, %d): %d", a[i], b[i], e)
		}
		l[i] = one
	}
	return l
}

// P9.5: shares of two secrets, added one by one, are those of both secrets, and of both rows of coefficients, together.
func TestBoth(t *testing.T) {
	for _, first := range edges() {
		for _, second := range append(edges(), minus(first)) {
			a, b := some(3, int64(first%1000)), some(2, int64(second%1000))
			l := added(t, share.Split(first, a, 6), share.Split(second, b, 6))
			splits(t, sum(first, second), []uint64{sum(a[0], b[0]), sum(a[1], b[1]), a[2]}, 6, l)
			for _, some := range [][]api.Share{l[:4], l[2:], l, {l[5], l[0], l[3], l[1]}} {
				tells(t, "both together", some, 0, sum(first, second))
			}
		}
	}
}

// P9.5: of as many shares, and coefficients, as there may be.
func TestBothOfMany(t *testing.T) {
	for _, k := range []int{0, 1, 50, most - 1} {
		a, b := share.Split(p-5, some(k, 1), most), share.Split(1<<60, some(most-1-k, 2), most)
		l := added(t, a, b)
		tells(t, "both together, of many", l, 0, sum(p-5, 1<<60))
		tells(t, "both together, of many", l, p+7, sum(a[6].V, b[6].V))
	}
}

// P9.5: shares of 0 change no secret, however often they are added; but the shares they do.
func TestRefreshed(t *testing.T) {
	for k := range 5 {
		for i, secret := range []uint64{0, 1, p - 1, 1234567890123456789} {
			l := share.Split(secret, some(k, int64(7*k+i)), 7)
			for round := range 6 {
				zero := []uint64{0, p, 8 * p}[round%3]
				l = added(t, l, share.Split(zero, some(k, int64(100*round+k)), 7))
				for _, some := range subsets(l) {
					if len(some) > k {
						whole(t, "refreshed", some, l, secret)
					}
				}
			}
		}
	}
	old := share.Split(5, []uint64{2}, 3)
	fresh := added(t, old, share.Split(0, []uint64{9}, 3))
	for i := range old {
		if old[i] == fresh[i] {
			t.Errorf("%d is refreshed to itself", old[i])
		}
	}
}

// P9.5: old shares beside new ones tell the secret just if, by chance, those of 0 have values that tell 0 with noughts in the places of the old ones.
func TestOldBesideNew(t *testing.T) {
	unlike := 0
	for k := 1; k <= 5; k++ {
		for seed := range int64(4) {
			old := share.Split(1000, some(k, seed), 6)
			zeros := share.Split(0, sure(k, seed+50), 6)
			fresh := added(t, old, zeros)
			for bits := 1; bits < 1<<(k+1)-1; bits++ {
				some, noughts := slices.Clone(old[:k+1]), slices.Clone(zeros[:k+1])
				for i := range some {
					if bits>>i&1 == 1 {
						some[i] = fresh[i]
					} else {
						noughts[i].V = 0
					}
				}
				by := value(least(noughts), 0)
				tells(t, "old beside new", some, 0, sum(1000, by))
				if by != 0 {
					unlike++
				}
			}
		}
	}
	if unlike != 4*(2+6+14+30+62) {
		t.Errorf("only %d rows of old and new tell something else", unlike)
	}
}

// sure are numbers of the field that are not 0.
func sure(n int, seed int64) []uint64 {
	l, chance := make([]uint64, n), rand.New(rand.NewSource(seed))
	for i := range l {
		l[i] = 1 + chance.Uint64()%(p-1)
	}
	return l
}

// P9.5: two such chances: what is added to the shares that are new is 0, or the noughts are where the polynomial of 0 has its own.
func TestOldBesideNewByChance(t *testing.T) {
	old := share.Split(1000, []uint64{77, 5}, 3)
	// x less x times x is 0 at 1: the first share stays as it was.
	fresh := added(t, old, share.Split(0, []uint64{1, p - 1}, 3))
	tells(t, "the first is new", []api.Share{fresh[0], old[1], old[2]}, 0, 1000)
	tells(t, "the first is old", []api.Share{old[0], fresh[1], fresh[2]}, 0, 1000)
	// 3 x less x times x is 0 at 3.
	fresh = added(t, old, share.Split(0, []uint64{3, p - 1}, 3))
	tells(t, "the third is old", []api.Share{fresh[0], fresh[1], old[2]}, 0, 1000)
	// At 1 and 2 it is 2: with a nought at 3 that is 3 times 2, less 3 times 2.
	if fresh[0].V != sum(old[0].V, 2) || fresh[1].V != sum(old[1].V, 2) {
		t.Errorf("%d became %d", old, fresh)
	}
}
