package draw_test

import (
	"math"
	"math/rand"
	"slices"
	"strconv"
	"testing"

	"huddle/api"
	"huddle/draw"
	"huddle/hash"
)

const p = api.P

// numbers are small ones, those about P, P - 2 and their multiples, and those at the end of a word.
func numbers() []uint64 {
	l := []uint64{0, 1, 2, 4, 5, 8, 1 << 31, 1 << 32, 1 << 60, 1<<63 - 1, 1 << 63, 1<<64 - 2, 1<<64 - 1}
	for k := range uint64(8) {
		for back := range uint64(5) {
			l = append(l, k*p+p-back, k*(p-2)+p-2-back)
		}
		l = append(l, k*p+p+1, k*(p-2)+p-1)
	}
	return l
}

// said are rows that are said: none, one number, and many.
func said() [][]uint64 {
	l := [][]uint64{nil, {}, {0, 4, p - 2}, {3, 3, 3}, numbers(), slices.Repeat(numbers(), 5), upTo(70000)}
	for _, n := range numbers() {
		l = append(l, []uint64{n}, []uint64{n, n}, []uint64{p, n})
	}
	return l
}

// upTo are all numbers from 0 to below n.
func upTo(n int) []uint64 {
	l := make([]uint64, n)
	for i := range l {
		l[i] = uint64(i)
	}
	return l
}

// drawn are the next n.
func drawn(d *draw.Draws, n int) []uint64 {
	l := make([]uint64, n)
	for i := range l {
		l[i] = d.Next()
	}
	return l
}

// want is the k-th that has to be drawn.
func want(seed uint64, said []uint64, k int) uint64 {
	if k > len(said) {
		return hash.Secret("draw", seed%p, uint64(k-len(said)))
	}
	return said[k-1]%(p-2) + 1
}

// wanted are the first n that have to be drawn.
func wanted(seed uint64, said []uint64, n int) []uint64 {
	l := make([]uint64, n)
	for i := range l {
		l[i] = want(seed, said, i+1)
	}
	return l
}

// short tells a row, but not all of a long one.
func short(l []uint64) string {
	s := strconv.Itoa(len(l)) + ":"
	for _, n := range l[:min(len(l), 8)] {
		s += " " + strconv.FormatUint(n, 10)
	}
	return s
}

// P3.1: the next ones: what is said, and behind it others; each of them is counted by Used, which changes nothing.
func TestNext(t *testing.T) {
	for _, seed := range []uint64{0, 1, 7, p - 1, p, p + 1, math.MaxUint64} {
		for _, l := range said() {
			d := draw.New(seed, l)
			if d.Used() != 0 {
				t.Errorf("%d are used ahead of the first one", d.Used())
			}
			for k := 1; k <= len(l)+20; k++ {
				if got, want := d.Next(), want(seed, l, k); got != want {
					t.Fatalf("seed %d, said %s: %d is the one drawn as %d, not %d", seed, short(l), got, k, want)
				}
				if d.Used() != k || d.Used() != k {
					t.Fatalf("seed %d, said %s: %d used, then %d, not %d", seed, short(l), d.Used(), d.Used(), k)
				}
			}
		}
	}
}

// P3.1: what was worked out elsewhere.
func TestNextWrittenOut(t *testing.T) {
	for _, x := range []struct{ seed, first, second, third, thousandth uint64 }{
		{0, 1447195041247129228, 1222904376633974138, 281479854479238515, 2174736822671355205},
		{1, 1232769245836245293, 1473821369264385194, 682051590338620192, 591450654781591069},
		{7, 944853339471533362, 517012690888916089, 893946183519340131, 221670180846725548},
		{p - 1, 664965312429056868, 1744130183020007132, 2198340112338023122, 81338955831570797},
		{p, 1447195041247129228, 1222904376633974138, 281479854479238515, 2174736822671355205},
		{1 << 61, 1232769245836245293, 1473821369264385194, 682051590338620192, 591450654781591069},
		{math.MaxUint64, 944853339471533362, 517012690888916089, 893946183519340131, 221670180846725548},
	} {
		got := drawn(draw.New(x.seed, nil), 1000)
		if got := []uint64{got[0], got[1], got[2], got[999]}; !slices.Equal(got, []uint64{x.first, x.second, x.third, x.thousandth}) {
			t.Errorf("of seed %d: %d, not %d", x.seed, got, x)
		}
	}
	l := []uint64{0, 4, p - 3, p - 2, p - 1, p, 2*p - 5, 2*p - 4, 1 << 63, math.MaxUint64}
	want := []uint64{1, 5, p - 2, 1, 2, 3, p - 2, 1, 13, 24, 944853339471533362}
	if got := drawn(draw.New(7, l), len(want)); !slices.Equal(got, want) {
		t.Errorf("said %d: %d, not %d", l, got, want)
	}
}

// P3.1: draws beside each other are their own, also those of one seed and of one list.
func TestBesideEachOther(t *testing.T) {
	l := []uint64{p, 3}
	a, b, c := draw.New(5, l), draw.New(5, l), draw.New(6, nil)
	for k := 1; k < 10; k++ {
		if got := a.Next(); got != want(5, l, k) {
			t.Errorf("%d of the first: %d", k, got)
		}
		if got := c.Below(1000); uint64(got) != want(6, nil, k)%1000 {
			t.Errorf("%d of the third: %d", k, got)
		}
	}
	if a.Used() != 9 || b.Used() != 0 || c.Used() != 9 {
		t.Errorf("%d, %d and %d used, not 9, 0 and 9", a.Used(), b.Used(), c.Used())
	}
	if got := drawn(b, 9); !slices.Equal(got, wanted(5, l, 9)) {
		t.Errorf("of the second: %d", got)
	}
}

// below are numbers to be below of, from 1 up to the greatest.
func below() []int {
	return []int{1, 2, 3, 5, 7, 10, 12, 255, 256, 257, 1000, 1 << 16, 1<<31 - 1, 1 << 31, 1<<32 - 1, 1 << 32, 1<<32 + 1,
		1 << 53, 1<<60 - 1, 1 << 60, p - 4, p - 3, p - 2, p - 1, p, p + 1, 1 << 62, math.MaxInt - 1, math.MaxInt}
}

// P3.2, P3.3: Below is the next one modulo n, from 0 to below n, and is one that was used.
func TestBelow(t *testing.T) {
	for _, n := range below() {
		for _, l := range [][]uint64{nil, {8}, numbers()} {
			d := draw.New(9, l)
			for k := 1; k <= len(l)+50; k++ {
				got := d.Below(n)
				if want := want(9, l, k) % uint64(n); uint64(got) != want {
					t.Errorf("said %s: Below of %d, as %d: %d, not %d", short(l), n, k, got, want)
				}
				if got < 0 || got >= n {
					t.Errorf("said %s: Below of %d, as %d: %d", short(l), n, k, got)
				}
				if d.Used() != k {
					t.Fatalf("%d used, not %d", d.Used(), k)
				}
			}
		}
	}
}

// P3.2: where the next one is as great as n, or about so.
func TestBelowAbout(t *testing.T) {
	for _, x := range []struct {
		said    uint64
		n, want int
	}{
		{8, 5, 4}, {8, 8, 1}, {8, 9, 0}, {8, 10, 9}, {8, 1, 0}, {0, 1, 0}, {0, 2, 1},
		{1 << 40, 1 << 40, 1}, {1<<40 - 1, 1 << 40, 0}, {1<<40 + 1<<32, 1 << 40, 1<<32 + 1},
		{p - 3, p - 2, 0}, {p - 3, p - 3, 1}, {p - 3, p - 1, p - 2}, {p - 3, math.MaxInt, p - 2},
		{p - 2, math.MaxInt, 1}, {p, math.MaxInt, 3}, {math.MaxUint64, math.MaxInt, 24}, {math.MaxUint64, 24, 0},
	} {
		if got := draw.New(1, []uint64{x.said}).Below(x.n); got != x.want {
			t.Errorf("said %d: Below of %d: %d, not %d", x.said, x.n, got, x.want)
		}
	}
}

// P3.1, P3.2: Next and Below turn about; both take of one row, and both are used.
func TestNextAndBelow(t *testing.T) {
	r := rand.New(rand.NewSource(3))
	for seed := range uint64(20) {
		for _, l := range [][]uint64{nil, {p}, numbers()} {
			d := draw.New(seed, l)
			for k := 1; k <= len(l)+40; k++ {
				want, n := want(seed, l, k), r.Intn(1000)
				if n == 0 {
					if got := d.Next(); got != want {
						t.Fatalf("said %s: %d as %d, not %d", short(l), got, k, want)
					}
				} else if got := d.Below(n); uint64(got) != want%uint64(n) {
					t.Fatalf("said %s: Below of %d, as %d: %d, not %d", short(l), n, k, got, want%uint64(n))
				}
				if d.Used() != k {
					t.Fatalf("%d used, not %d", d.Used(), k)
				}
			}
		}
	}
	d := draw.New(4, []uint64{10, 20, 30})
	if a, b, c := d.Next(), d.Below(4), d.Next(); a != 11 || b != 1 || c != 31 || d.Used() != 3 {
		t.Errorf("%d, %d and %d, and %d used; not 11, 1 and 31, and 3", a, b, c, d.Used())
	}
}

// Numbers that Below may not be handed: it does not panic, and nothing is drawn.
func TestBelowNothing(t *testing.T) {
	d := draw.New(4, []uint64{10})
	for _, n := range []int{0, -1, -5, math.MinInt} {
		if got := d.Below(n); got != 0 || d.Used() != 0 {
			t.Errorf("Below of %d: %d, and %d used", n, got, d.Used())
		}
	}
	if got := d.Next(); got != 11 {
		t.Errorf("%d behind it, not 11", got)
	}
}

// P3.3: each one is a secret, whatever was said.
func TestSecrets(t *testing.T) {
	for _, seed := range numbers() {
		for _, l := range [][]uint64{nil, numbers()} {
			for _, secret := range drawn(draw.New(seed, l), len(l)+100) {
				if secret < 1 || secret > p-2 {
					t.Errorf("of seed %d: %d", seed, secret)
				}
			}
		}
	}
}

// P3.4: the same seed, and the same that is said, lead to the same; as do seeds that are alike modulo P, and no others.
func TestAgain(t *testing.T) {
	for _, l := range [][]uint64{nil, {p, 1}, numbers()} {
		for _, a := range numbers() {
			first := drawn(draw.New(a, l), len(l)+10)
			if again := drawn(draw.New(a, slices.Clone(l)), len(l)+10); !slices.Equal(first, again) {
				t.Errorf("of seed %d: %s, then %s", a, short(first), short(again))
			}
			for _, b := range numbers() {
				other := drawn(draw.New(b, l), len(l)+10)
				if !slices.Equal(first[:len(l)], other[:len(l)]) {
					t.Errorf("what is said comes otherwise of %d and of %d", a, b)
				}
				for k := len(l); k < len(first); k++ {
					if (first[k] == other[k]) != (a%p == b%p) {
						t.Errorf("%d behind what is said, of %d and of %d: %d and %d", k-len(l), a, b, first[k], other[k])
					}
				}
			}
		}
	}
}

// P3.4: what comes behind is the same, however much was said, and whatever.
func TestBehind(t *testing.T) {
	for _, seed := range []uint64{0, 6, p, math.MaxUint64} {
		behind := drawn(draw.New(seed, nil), 30)
		for _, l := range said() {
			d := draw.New(seed, l)
			for range l {
				d.Below(3)
			}
			if got := drawn(d, 30); !slices.Equal(got, behind) {
				t.Errorf("seed %d, behind %s: %s, not %s", seed, short(l), short(got), short(behind))
			}
		}
	}
}

// tellsEachOnce asks whether Below, of the draws that are handed out for each number, tells each number below n once.
func tellsEachOnce(t *testing.T, n int, draws func(i int) *draw.Draws) {
	t.Helper()
	told := make([]int, n)
	for i := range n {
		told[draws(i).Below(n)]++
	}
	for i, times := range told {
		if times != 1 {
			t.Errorf("Below of %d told %d %d times", n, i, times)
		}
	}
}

// P3.5: of all numbers below n, in a row and each by itself, Below tells each once.
func TestEven(t *testing.T) {
	for _, n := range []int{1, 2, 3, 4, 5, 6, 7, 8, 9, 10, 12, 63, 64, 65, 100, 255, 256, 257, 1000, 4096} {
		row := draw.New(3, upTo(n))
		tellsEachOnce(t, n, func(int) *draw.Draws { return row })
		turned := upTo(n)
		slices.Reverse(turned)
		back := draw.New(3, turned)
		tellsEachOnce(t, n, func(int) *draw.Draws { return back })
		tellsEachOnce(t, n, func(i int) *draw.Draws { return draw.New(3, []uint64{uint64(i)}) })
	}
}

// R4: what is handed in is not kept: numbers that are changed afterwards change nothing, ahead of the first one and amid them.
func TestChangedAfterwards(t *testing.T) {
	l := []uint64{5, 6, 7, 8}
	d := draw.New(2, l)
	l[0], l[2] = 100, 100
	if got := d.Next(); got != 6 {
		t.Errorf("%d, not 6", got)
	}
	for i := range l {
		l[i] = 200
	}
	if got := drawn(d, 5); !slices.Equal(got, append([]uint64{7, 8, 9}, wanted(2, nil, 2)...)) {
		t.Errorf("%d are what comes behind", got)
	}
}

// R4: what is handed in is not changed, its spare room neither, and nothing is read there.
func TestHandedIn(t *testing.T) {
	all := slices.Repeat([]uint64{math.MaxUint64}, 40)
	for n := range 20 {
		d := draw.New(2, all[:n])
		for range 10 {
			d.Next()
			d.Below(9)
		}
		if !slices.Equal(all, slices.Repeat([]uint64{math.MaxUint64}, 40)) {
			t.Fatalf("what was said was changed: %d", all)
		}
		if got := drawn(draw.New(2, all[:n]), n+3); !slices.Equal(got, wanted(2, all[:n], n+3)) {
			t.Errorf("said %d: %d", n, got)
		}
	}
}

// The chapter's examples.
func TestExamples(t *testing.T) {
	if got := drawn(draw.New(1, []uint64{0, 4, p - 2}), 3); !slices.Equal(got, []uint64{1, 5, 1}) {
		t.Errorf("0, 4 and P - 2: %d", got)
	}
	if got := draw.New(1, []uint64{8}).Below(5); got != 4 {
		t.Errorf("8, Below of 5: %d", got)
	}
}
