package share_test

import (
	"math"
	"slices"
	"testing"

	"huddle/api"
	"huddle/share"
)

// refuses holds shares to tell nothing anywhere, in whatever row they are.
func refuses(t *testing.T, what string, l []api.Share) {
	t.Helper()
	for _, row := range rows(l) {
		if got, e := share.Join(row); got != 0 || e != api.ErrShare {
			t.Fatalf("%s: Join(%d): %d, %d", what, row, got, e)
		}
		asked := []uint64{0, 1, 2, 6, p - 1, p, math.MaxUint64}
		if len(row) > 0 {
			asked = append(asked, row[0].At, row[len(row)-1].At)
		}
		for _, at := range asked {
			if got, e := share.At(row, at); got != 0 || e != api.ErrShare {
				t.Fatalf("%s: At(%d, %d): %d, %d", what, row, at, got, e)
			}
		}
	}
}

// P9.2: there is no share.
func TestNone(t *testing.T) {
	refuses(t, "nil", nil)
	refuses(t, "none", []api.Share{})
	refuses(t, "none, with room to spare", make([]api.Share, 0, 8))
	refuses(t, "none of some", share.Split(5, []uint64{2}, 3)[:0])
	refuses(t, "none at all", share.Split(5, []uint64{2}, 0))
}

// again are shares that have the At of another one, modulo P too, and the same V, the same modulo P, or others.
func again(s api.Share) []api.Share {
	var l []api.Share
	for _, v := range []uint64{s.V, s.V%p + p, s.V%p + 7*p, s.V + 1, 0, math.MaxUint64} {
		for k := range uint64(8) {
			l = append(l, api.Share{At: s.At%p + k*p, V: v})
		}
		l = append(l, api.Share{At: s.At, V: v})
	}
	return l
}

// P9.2: two have one At, wherever they stand, whatever their Vs are.
func TestTwice(t *testing.T) {
	for _, n := range []int{1, 2, 3, 6} {
		for _, at := range places(n) {
			l := shares(at, some(n, 3))
			for _, s := range l {
				for _, other := range again(s) {
					for i := range n + 1 {
						refuses(t, "two of one At", slices.Insert(slices.Clone(l), i, other))
					}
				}
			}
		}
	}
	refuses(t, "all of one", slices.Repeat([]api.Share{{At: 1, V: 7}}, most))
	refuses(t, "three of one", []api.Share{{At: 4, V: 1}, {At: 4 + p, V: 1}, {At: 4 + 2*p, V: 1}})
	refuses(t, "7 at the end of a word", []api.Share{{At: 7, V: 1}, {At: math.MaxUint64, V: 2}})
}

// P9.2: one has 0, or a multiple of P, wherever it stands, whatever its V is.
func TestZero(t *testing.T) {
	for k := range uint64(9) {
		for _, v := range []uint64{0, 1, 5, p - 1, p, math.MaxUint64} {
			zero := api.Share{At: k * p, V: v}
			refuses(t, "0 alone", []api.Share{zero})
			for _, n := range []int{1, 2, 5} {
				l := split(5, []uint64{2, 9}, n)
				for i := range n + 1 {
					refuses(t, "0 among others", slices.Insert(slices.Clone(l), i, zero))
				}
			}
		}
	}
	// What they tell at 0 is not a share, also if it is right.
	l := split(5, []uint64{2}, 2)
	refuses(t, "the secret itself", append(l, api.Share{At: 0, V: 5}))
	refuses(t, "0 twice", []api.Share{{At: 0, V: 5}, {At: 0, V: 5}})
	refuses(t, "0 and P", []api.Share{{At: p, V: 5}, {At: 1, V: 7}, {At: 0, V: 6}})
	refuses(t, "0, and two of one At", []api.Share{{At: 3, V: 5}, {At: 3, V: 7}, {At: p, V: 6}})
}

// P9.2: one of many that is wrong is met in each place.
func TestOneOfMany(t *testing.T) {
	for _, at := range places(most) {
		l := shares(at, some(most, 4))
		tells(t, "right", l, l[0].At, l[0].V%p)
		for i := range l {
			wrong := slices.Clone(l)
			wrong[i].At = 2 * p
			refuses(t, "0 among many", wrong)
			other := (i + most/3) % most
			wrong[i].At = at[other]%p + 3*p
			refuses(t, "two of one At among many", wrong)
			wrong[i].V = at[other]
			refuses(t, "two shares that are the same among many", wrong)
		}
	}
}

// P9.2: what is beside a multiple of P is not one, and Ats that differ by all but P are unlike.
func TestNearby(t *testing.T) {
	for k := range uint64(9) {
		near := []uint64{k*p + 1, k*p + 2, k*p + 7}
		if k > 0 {
			near = append(near, k*p-1, k*p-2)
		}
		for _, at := range near {
			tells(t, "beside a multiple", []api.Share{{At: at, V: 9}}, 0, 9)
			tells(t, "two beside each other", []api.Share{{At: 3, V: 9}, {At: at, V: 9}}, 0, 9)
		}
	}
	for _, by := range []uint64{1, 2, 1 << 60, p - 1, p + 1, 2*p - 1, 1 << 61, 1 << 62, 1 << 63} {
		l := []api.Share{{At: 5, V: 1}, {At: 5 + by, V: 2}}
		tells(t, "not P", l, 0, value(least(l), 0))
		// Shares of unlike Ats may have one V.
		l[1].V = 1
		tells(t, "of one V", l, 0, 1)
	}
}

// P9.3: the Ats are not the same.
func TestAddWrong(t *testing.T) {
	all := append(edges(), some(6, 6)...)
	for _, at := range all {
		for _, other := range all {
			if at%p == other%p {
				continue
			}
			for _, v := range []uint64{0, 5, p, math.MaxUint64} {
				a, b := api.Share{At: at, V: 5}, api.Share{At: other, V: v}
				if got, e := share.Add(a, b); got != (api.Share{}) || e != api.ErrShare {
					t.Fatalf("Add(%d, %d): %d, %d", a, b, got, e)
				}
			}
		}
	}
}
