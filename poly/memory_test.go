package poly_test

import (
	"slices"
	"testing"

	"huddle/poly"
)

// calls are all calls of two lists, each with what it tells as lists.
func calls() map[string]func(a, b []uint64) [][]uint64 {
	return map[string]func(a, b []uint64) [][]uint64{
		"Trim":   func(a, _ []uint64) [][]uint64 { return [][]uint64{poly.Trim(a)} },
		"Add":    func(a, b []uint64) [][]uint64 { return [][]uint64{poly.Add(a, b)} },
		"Mul":    func(a, b []uint64) [][]uint64 { return [][]uint64{poly.Mul(a, b)} },
		"DivMod": func(a, b []uint64) [][]uint64 { q, r := poly.DivMod(a, b); return [][]uint64{q, r} },
		"Gcd":    func(a, b []uint64) [][]uint64 { return [][]uint64{poly.Gcd(a, b)} },
		"Eval":   func(a, b []uint64) [][]uint64 { return [][]uint64{{poly.Eval(a, uint64(len(b)))}} },
		"From":   func(a, b []uint64) [][]uint64 { return [][]uint64{poly.From(a, b)} },
		"Of":     func(a, _ []uint64) [][]uint64 { return [][]uint64{poly.Of(a)} },
		"Roots":  func(a, _ []uint64) [][]uint64 { return [][]uint64{poly.Roots(a)} },
	}
}

// pairs are lists that are handed in together.
func pairs() [][2][]uint64 {
	one := []uint64{1}
	l := [][2][]uint64{{nil, nil}, {one, one}, {{p, 0}, {0, 3 * p}}, {{5, 6, 7}, nil}, {numbers(2, 8), some(8, 1)}, {{4, 5}, {1, 2, 3}}, {poly.Of(numbers(1, 5)), poly.Of(numbers(3, 5))}}
	for _, a := range few(20) {
		l = append(l, [2][]uint64{a, {1, p + 1}}, [2][]uint64{{9, 8, 7, 6, p - 5}, a}, [2][]uint64{a, a})
	}
	return l
}

// deep copies lists.
func deep(l [][]uint64) [][]uint64 {
	var all [][]uint64
	for _, a := range l {
		all = append(all, slices.Clone(a))
	}
	return all
}

func equal(a, b [][]uint64) bool { return slices.EqualFunc(a, b, slices.Equal[[]uint64]) }

// scribble changes a list, and its spare room.
func scribble(l []uint64) {
	l = l[:cap(l)]
	for i := range l {
		l[i] = 77
	}
}

// spare is a list with room behind it that is not 0.
func spare(l []uint64) []uint64 { return append(slices.Clone(l), 71, 72, 73, 74, 75)[:len(l)] }

// What is handed in is left as it was, and so is its spare room.
func TestHandedIn(t *testing.T) {
	for name, call := range calls() {
		for _, x := range pairs() {
			a, b := spare(x[0]), spare(x[1])
			call(a, b)
			for i, l := range [][]uint64{a, b} {
				want := append(slices.Clone(x[i]), 71, 72, 73, 74, 75)
				if got := l[:len(want)]; !slices.Equal(got, want) {
					t.Errorf("%s changed %d into %d", name, want, got)
				}
			}
		}
	}
}

// What was told does not change with what was handed in, nor with what else was told, and no later call changes with it.
func TestTold(t *testing.T) {
	for name, call := range calls() {
		for _, x := range pairs() {
			a, b := spare(x[0]), spare(x[1])
			told := call(a, b)
			want := deep(told)
			scribble(a)
			scribble(b)
			if !equal(told, want) {
				t.Errorf("%s of %d changed with what was handed in: %d, not %d", name, x, told, want)
			}
			for i := range told {
				told = call(x[0], x[1])
				scribble(told[i])
				told[i] = want[i]
				if !equal(told, want) {
					t.Errorf("%s of %d: one list changed with another one: %d, not %d", name, x, told, want)
				}
			}
			if again := call(x[0], x[1]); !equal(again, want) {
				t.Errorf("%s of %d, again: %d, not %d", name, x, again, want)
			}
		}
	}
}

// One list may be handed in twice.
func TestOneListTwice(t *testing.T) {
	for name, call := range calls() {
		for _, a := range few(20) {
			if got, want := call(a, a), call(slices.Clone(a), slices.Clone(a)); !equal(got, want) {
				t.Errorf("%s of %d twice: %d, not %d", name, a, got, want)
			}
		}
	}
}
