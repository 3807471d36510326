package sketch_test

import (
	"slices"
	"testing"

	"huddle/api"
	"huddle/sketch"
)

// behind is what stands in the spare room of what is handed in.
const behind = 0xa5a5

// spare is a list with room behind it that is not 0.
func spare(l []uint64) []uint64 {
	return append(slices.Clone(l), slices.Repeat([]uint64{behind}, 9)...)[:len(l)]
}

// kept holds a list, and its spare room, to be what it was.
func kept(t *testing.T, what string, l, was []uint64) {
	t.Helper()
	if all := spare(was)[:len(was)+9]; !slices.Equal(l[:len(all)], all) {
		t.Errorf("%s: %d was changed into %d", what, all, l[:len(all)])
	}
}

// scribble changes a list, and its spare room.
func scribble(l []uint64) {
	l = l[:cap(l)]
	for i := range l {
		l[i] = 77
	}
}

// What Of is handed is left as it was, its spare room too; what it tells does not change with that, nor with what else it told.
func TestOfMemory(t *testing.T) {
	for _, was := range sets() {
		for _, n := range []int{-1, 0, 1, 5, points} {
			want := sketchOf(was, n)
			l := spare(was)
			one, other := sketch.Of(l, n), sketch.Of(l, n)
			kept(t, "Of", l, was)
			scribble(l)
			if !equal(one, want) {
				t.Errorf("%d changed with what was handed in: %d", want, one)
			}
			scribble(one.V)
			if !equal(other, want) {
				t.Errorf("%d changed with what was told: %d", want, other)
			}
			asks(t, was, n, want)
		}
	}
}

// pairs are two sets that are told apart, some that are the same, and some that are not told apart, each with a number of values.
func pairs() []struct {
	l, m []uint64
	n    int
} {
	return []struct {
		l, m []uint64
		n    int
	}{
		{nil, nil, 0}, {nil, nil, 5}, {[]uint64{3, 5, 8}, []uint64{5, 9}, 5}, {[]uint64{3, 5, 8}, []uint64{5, 9}, 4},
		{[]uint64{7}, []uint64{7}, 2}, {[]uint64{7}, []uint64{8}, 1}, {first(40), nil, points}, {nil, last(62), points},
		{some(31, 1), some(31, 2), points}, {some(40, 1), some(40, 2), points}, {first(9), last(4), 40},
	}
}

// What Diff is handed is left as it was, its spare room too; what it tells does not change with that, and one list not with the other one, nor with what else is told.
func TestDiffMemory(t *testing.T) {
	for _, x := range pairs() {
		wasA, wasB := sketchOf(x.l, x.n), sketchOf(x.m, x.n)
		wantA, wantB, want := sketch.Diff(wasA, wasB)
		if want == api.OK && !fits(wasA, wasB, wantA, wantB) {
			t.Fatalf("%d; %d do not fit", wantA, wantB)
		}
		// What was told is copied, as it is changed below.
		wantA, wantB = slices.Clone(wantA), slices.Clone(wantB)
		for i := range 3 {
			a, b := sketch.Sketch{N: wasA.N, V: spare(wasA.V)}, sketch.Sketch{N: wasB.N, V: spare(wasB.V)}
			onlyA, onlyB, e := sketch.Diff(a, b)
			kept(t, "Diff", a.V, wasA.V)
			kept(t, "Diff", b.V, wasB.V)
			scribble(a.V)
			scribble(b.V)
			switch i {
			case 0:
				scribble(onlyA)
				onlyA = wantA
			case 1:
				scribble(onlyB)
				onlyB = wantB
			}
			if e != want || !slices.Equal(onlyA, wantA) || !slices.Equal(onlyB, wantB) {
				t.Errorf("%d; %d; %d, and not %d; %d; %d", onlyA, onlyB, e, wantA, wantB, want)
			}
		}
		tells(t, "again", wasA, wasB, wantA, wantB, want)
	}
}

// One sketch may be handed in twice.
func TestOneSketchTwice(t *testing.T) {
	for _, l := range sets() {
		for _, n := range []int{2, 3, 6, points} {
			a := sketch.Of(l, n)
			was := slices.Clone(a.V)
			tells(t, "one sketch twice", a, a, nil, nil, api.OK)
			if !slices.Equal(a.V, was) {
				t.Errorf("%d was changed into %d", was, a.V)
			}
		}
	}
}

// A list is the same when it is told again, whatever was asked in between.
func TestAskedAgain(t *testing.T) {
	a, b := sketch.Of([]uint64{3, 5, 8}, 5), sketch.Of([]uint64{5, 9}, 5)
	for range 3 {
		tells(t, "again", a, b, []uint64{3, 8}, []uint64{9}, api.OK)
		sketch.Diff(a, sketch.Of(nil, 4))
		sketch.Diff(sketch.Of(first(9), 5), b)
		sketch.Diff(sketch.Of(first(3), 5), sketch.Of(nil, 5))
		sketch.Elem(api.Ident{By: 1})
	}
}
