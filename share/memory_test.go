package share_test

import (
	"slices"
	"testing"

	"huddle/api"
	"huddle/share"
)

// behind is what stands in the spare room of what is handed in.
const behind = 0xa5a5

// spare is a list with room behind it that is not 0.
func spare[T any](l []T, nothing T) []T {
	return append(slices.Clone(l), slices.Repeat([]T{nothing}, 9)...)[:len(l)]
}

// kept holds a list, and its spare room, to be what it was.
func kept[T comparable](t *testing.T, what string, l, was []T, nothing T) {
	t.Helper()
	if all := spare(was, nothing)[:len(was)+9]; !slices.Equal(l[:len(all)], all) {
		t.Errorf("%s: %v was changed into %v", what, all, l[:len(all)])
	}
}

// scribble changes a list, and its spare room.
func scribble[T any](l []T, one T) {
	l = l[:cap(l)]
	for i := range l {
		l[i] = one
	}
}

// none is a share that stands in spare room.
func none() api.Share { return api.Share{At: behind, V: behind} }

// What Split is handed is left as it was, its spare room too; what stands there is no coefficient.
func TestSplitHandedIn(t *testing.T) {
	for _, was := range coefficients() {
		coefs := spare(was, behind)
		for _, n := range []int{-1, 0, 1, 3, most} {
			splits(t, p+5, coefs, n, split(p+5, was, n))
			kept(t, "Split", coefs, was, behind)
		}
	}
}

// What At and Join are handed is left as it was, its spare room too, where they refuse it as well; what stands there is no share.
func TestJoinHandedIn(t *testing.T) {
	for _, n := range []int{1, 2, 5, most} {
		for _, at := range places(n) {
			was := shares(at, some(n, 9))
			l, f := spare(was, none()), least(was)
			tells(t, "with room to spare", l, 0, value(f, 0))
			tells(t, "with room to spare", l, p+3, value(f, 3))
			kept(t, "At and Join", l, was, none())
		}
	}
	for _, was := range [][]api.Share{nil, {{At: p, V: 5}}, {{At: p + 3, V: p}, {At: 3, V: 2}}, {{At: 9, V: p + 1}, {At: 2 * p, V: 5}}} {
		l := spare(was, none())
		share.Join(l)
		share.At(l, p+7)
		kept(t, "At and Join, where they refuse,", l, was, none())
		refuses(t, "with room to spare", l)
	}
}

// What Split told does not change with what it was handed, and when it is changed nothing else does.
func TestSplitTold(t *testing.T) {
	for _, was := range coefficients() {
		want := split(5, was, 8)
		coefs := spare(was, behind)
		first, second := share.Split(5, coefs, 8), share.Split(5, coefs, 8)
		scribble(coefs, 77)
		if !slices.Equal(first, want) {
			t.Errorf("%d changed with the coefficients: %d", want, first)
		}
		scribble(first, none())
		_ = append(first[:0], none(), none())
		if !slices.Equal(second, want) {
			t.Errorf("%d changed with other shares: %d", want, second)
		}
		splits(t, 5, was, 8, want)
	}
}

// What is told hangs on what is handed in alone: the same is told whenever it is asked, whatever was asked ahead, and when a list was changed.
func TestAskedAgain(t *testing.T) {
	l := share.Split(5, []uint64{2, 7}, 5)
	for range 3 {
		tells(t, "again", l, 0, 5)
		share.Join(nil)
		share.At([]api.Share{{At: 1, V: 8}, {At: p + 1, V: 8}}, 1)
		share.Split(6, []uint64{9}, 9)
		share.Add(l[0], api.Share{At: p + 1, V: 5})
		share.Add(l[0], l[1])
		tells(t, "again", l[1:4], p+5, l[4].V)
		splits(t, 5, []uint64{2, 7}, 5, l)
	}
	l[0].V++
	tells(t, "changed", l[:3], 0, value(least(l[:3]), 0))
	l[0].V--
	tells(t, "changed back", l[:3], 0, 5)
}
