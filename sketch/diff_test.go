package sketch_test

import (
	"fmt"
	"math/rand"
	"slices"
	"testing"

	"huddle/api"
	"huddle/sketch"
)

// tells holds what Diff tells of two sketches, and, turned round, of them turned round.
func tells(t *testing.T, what string, a, b sketch.Sketch, onlyA, onlyB []uint64, e api.Errno) {
	t.Helper()
	if x, y, got := sketch.Diff(a, b); got != e || !slices.Equal(x, onlyA) || !slices.Equal(y, onlyB) {
		t.Fatalf("%s, %d values: %d; %d; %d, and not %d; %d; %d", what, len(a.V), x, y, got, onlyA, onlyB, e)
	}
	if y, x, got := sketch.Diff(b, a); got != e || !slices.Equal(x, onlyA) || !slices.Equal(y, onlyB) {
		t.Fatalf("%s, %d values, turned round: %d; %d; %d, and not %d; %d; %d", what, len(a.V), y, x, got, onlyB, onlyA, e)
	}
}

// without are the elements of a set that another one has not, rising.
func without(l, other []uint64) []uint64 {
	has := map[uint64]bool{}
	for _, element := range other {
		has[element] = true
	}
	var rest []uint64
	for _, element := range l {
		if !has[element] {
			rest = append(rest, element)
		}
	}
	slices.Sort(rest)
	return rest
}

// differ holds what n values tell of two sets: what only the one has, and only the other one has; or, if these are too many, the lists that fit.
func differ(t *testing.T, l, m []uint64, n int) {
	t.Helper()
	a, b := sketch.Of(l, n), sketch.Of(m, n)
	onlyA, onlyB, e := without(l, m), without(m, l), api.OK
	what := fmt.Sprintf("sets of %d and %d that differ in %d and %d", len(l), len(m), len(onlyA), len(onlyB))
	if len(onlyA)+len(onlyB) > n-2 {
		onlyA, onlyB, e = fitting(a, b)
	}
	tells(t, what, a, b, onlyA, onlyB, e)
}

// halves are two sets out of one: each has so many of its own, and both have the rest, in any row.
func halves(all []uint64, ownA, ownB int) (l, m []uint64) {
	l, m = slices.Concat(all[:ownA], all[ownA+ownB:]), slices.Clone(all[ownA:])
	chance := rand.New(rand.NewSource(int64(len(all) + ownA)))
	for _, x := range [][]uint64{l, m} {
		chance.Shuffle(len(x), func(i, j int) { x[i], x[j] = x[j], x[i] })
	}
	return l, m
}

// kind is a set of so many elements: by turns of the first, the last, and any, but 1 and 2^60 among them.
func kind(n, turn int) []uint64 {
	switch turn % 3 {
	case 0:
		return first(n)
	case 1:
		return last(n)
	}
	return slices.Concat([]uint64{1, greatest}, some(n, int64(turn)))[:n]
}

// amounts are in how many elements two sets may differ that n values tell apart; sides are how many of these are on the one side.
func amounts(n int) []int {
	l := []int{0, min(1, n-2), min(2, n-2), (n - 2) / 2, max(0, n-3), n - 2}
	slices.Sort(l)
	return slices.Compact(l)
}

func sides(d int) []int {
	l := []int{0, min(1, d), d / 2, d - d/2, d}
	slices.Sort(l)
	return slices.Compact(l)
}

// P10.3: just the difference, of each number of values from 2 on: in none, one, several and as many as may be, all on one side and on both, with none, few and many elements in common.
func TestDifference(t *testing.T) {
	for n := 2; n <= points; n++ {
		t.Run(fmt.Sprint(n), func(t *testing.T) {
			t.Parallel()
			for _, d := range amounts(n) {
				for i, ownA := range sides(d) {
					common := []int{0, 3, 200, 1}[(n+d+i)%4]
					l, m := halves(kind(d+common, n+i), ownA, d-ownA)
					differ(t, l, m, n)
				}
			}
		})
	}
}

// P10.3: one set is empty, or both are.
func TestEmpty(t *testing.T) {
	for _, n := range []int{2, 3, 4, 5, 6, 7, 8, 9, 16, 31, 32, points - 1, points} {
		differ(t, nil, nil, n)
		differ(t, []uint64{}, nil, n)
		for _, d := range amounts(n) {
			differ(t, kind(d, n+d), nil, n)
			differ(t, nil, kind(d, n+d+1), n)
		}
	}
}

// P10.3: a set and itself, in any row.
func TestSame(t *testing.T) {
	for _, l := range sets() {
		same, _ := halves(l, 0, 0)
		for _, n := range []int{2, 3, 4, 5, 8, points} {
			differ(t, l, l, n)
			differ(t, l, same, n)
		}
	}
}

// P10.3: as many elements as sets may have, almost all of them in common, or all.
func TestMany(t *testing.T) {
	all := kind(many, 2)
	for _, x := range []struct{ ownA, ownB, n int }{{31, 31, points}, {62, 0, points}, {0, 0, 2}, {1, 2, 5}} {
		l, m := halves(all, x.ownA, x.ownB)
		differ(t, l, m, x.n)
	}
}

// P10.2, P10.3: all pairs of sets of a few elements, of all small numbers of values.
func TestAllPairs(t *testing.T) {
	universe := []uint64{1, 2, 9, 1 << 59, greatest}
	var all [][]uint64
	for bits := range 1 << len(universe) {
		var l []uint64
		for i, element := range universe {
			if bits>>i&1 == 1 {
				l = append(l, element)
			}
		}
		all = append(all, l)
	}
	for n := range 9 {
		t.Run(fmt.Sprint(n), func(t *testing.T) {
			t.Parallel()
			for _, l := range all {
				for _, m := range all {
					differ(t, l, m, n)
				}
			}
		})
	}
}

// P10.2: sketches that have not as many values, one of them none too, of the same set and of others.
func TestUnlike(t *testing.T) {
	for n := range points + 1 {
		for _, m := range []int{0, 1, 2, n - 1, n + 1, 30, points - 1, points} {
			if m == n || m < 0 {
				continue
			}
			l := []uint64{3, 5, 8}
			tells(t, "the same set", sketch.Of(l, n), sketch.Of(l, m), nil, nil, api.ErrArg)
			tells(t, "others", sketch.Of(l, n), sketch.Of([]uint64{5, 9}, m), nil, nil, api.ErrArg)
			tells(t, "one that is empty", sketch.Of(nil, n), sketch.Of(l, m), nil, nil, api.ErrArg)
			tells(t, "far too many", sketch.Of(first(200), n), sketch.Of(nil, m), nil, nil, api.ErrArg)
		}
	}
}

// P10.3: of operations' names just the elements of those that one side alone has.
func TestNames(t *testing.T) {
	chance := rand.New(rand.NewSource(3))
	var all []uint64
	for by := range api.MaxDevices {
		for seq := range 20 {
			all = append(all, sketch.Elem(api.Ident{By: by + 1, Seq: seq + 1, Sum: chance.Uint64() % p}))
		}
	}
	if slices.Sort(all); len(slices.Compact(all)) != 240 {
		t.Fatal("two names have one element")
	}
	for _, x := range []struct{ ownA, ownB, n int }{{0, 0, 4}, {1, 1, 4}, {0, 3, 8}, {4, 2, 8}, {20, 9, 32}, {10, 50, points}, {31, 31, points}, {62, 0, points}} {
		chance.Shuffle(len(all), func(i, j int) { all[i], all[j] = all[j], all[i] })
		l, m := halves(all, x.ownA, x.ownB)
		tells(t, "names", sketch.Of(l, x.n), sketch.Of(m, x.n), without(l, m), without(m, l), api.OK)
	}
}

// The chapter's examples.
func TestExamples(t *testing.T) {
	l, m := []uint64{3, 5, 8}, []uint64{5, 9}
	tells(t, "an example", sketch.Of(l, 5), sketch.Of(m, 5), []uint64{3, 8}, []uint64{9}, api.OK)
	tells(t, "an example", sketch.Of(l, 4), sketch.Of(m, 4), nil, nil, api.ErrDiff)
}
