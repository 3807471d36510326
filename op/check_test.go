package op_test

import (
	"math"
	"slices"
	"testing"

	"huddle/api"
	"huddle/op"
)

// checks holds Check to what it has to tell.
func checks(t *testing.T, what string, o api.Op, want api.Errno) {
	t.Helper()
	if got := op.Check(o); got != want {
		t.Errorf("%s: %d, not %d", what, got, want)
	}
}

// sizes are how many items lists have: none or as few as may be, one, several, as many as may be.
func sizes() []int { return []int{0, 1, 2, 3, 5, 6, 8, 12, 20, 208, 300} }

// P11.2: operations of each kind, with lists of each length, the least and the greatest among them, may be.
func TestMayBe(t *testing.T) {
	for _, s := range shapes() {
		for _, n := range sizes() {
			checks(t, s.name, s.op(n), api.OK)
		}
	}
}

// P11.2: each number may be the least and the greatest of its range, by itself and together with all others.
func TestEdges(t *testing.T) {
	for _, s := range shapes() {
		for _, pl := range had(s.op(1)) {
			for _, edge := range pl.edges {
				o := s.op(1)
				edge(&o)
				checks(t, s.name+", "+pl.name+" at an edge", o, api.OK)
			}
		}
		for k := range 2 {
			for n := range 2 {
				o := s.op(n)
				for _, pl := range had(o) {
					pl.edges[k](&o)
				}
				checks(t, s.name+", all at an edge", o, api.OK)
			}
		}
	}
}

// P11.2: numbers, and Sums, at their edges within full lists may be.
func TestEdgesOfLists(t *testing.T) {
	for _, s := range shapes() {
		for _, pl := range had(s.op(300)) {
			if pl.field == "Past" || pl.field == "Guards" { // they are in a row there
				continue
			}
			for _, edge := range pl.edges {
				o := s.op(300)
				edge(&o)
				checks(t, s.name+", "+pl.name+" at an edge", o, api.OK)
			}
		}
	}
	for _, past := range [][]api.Ident{
		{{By: 1, Seq: 1, Sum: 0}, {By: 12, Seq: most, Sum: p - 1}},
		{{By: 1, Seq: 1, Sum: 0}, {By: 1, Seq: 1, Sum: p - 1}},
		{{By: 1, Seq: 1, Sum: p - 1}, {By: 1, Seq: most, Sum: 0}},
		{{By: 1, Seq: most, Sum: p - 1}, {By: 2, Seq: 1, Sum: 0}, {By: 2, Seq: 1, Sum: 1}},
		{{By: 12, Seq: most, Sum: 0}, {By: 12, Seq: most, Sum: 1}, {By: 12, Seq: most, Sum: p - 1}},
	} {
		o := shape{kind: api.Erase}.op(1)
		o.Past = past
		checks(t, "a Past", o, api.OK)
	}
}

// P11.2: all lengths from the least to the greatest may be.
func TestLengths(t *testing.T) {
	for _, s := range shapes() {
		for n := 1; n <= 12 && s.kind != api.Create; n++ {
			o := s.op(1)
			o.Past = names(n)
			checks(t, s.name+" with a Past", o, api.OK)
		}
		for n := 0; n <= 5 && slices.Contains(has(s.kind), "Path"); n++ {
			for each := range 13 {
				o := s.op(1)
				o.Path = nodes(n, each)
				checks(t, s.name+" with a Path", o, api.OK)
			}
		}
		for n := 0; n <= 20 && slices.Contains(has(s.kind), "Hist"); n++ {
			o := s.op(1)
			o.Hist = sealed(n, 208-n)
			checks(t, s.name+" with a Hist", o, api.OK)
		}
	}
	for n := range 209 {
		o := shape{kind: api.Message}.op(1)
		o.Body = text(n)
		o.Refs = rising[uint64](n % 9)
		checks(t, "a Message with a Body", o, api.OK)
		o = shape{kind: api.Add}.op(1)
		o.Hist[0].Body = text(n)
		checks(t, "an Add with an earlier message", o, api.OK)
	}
	for n := 1; n <= 20; n++ {
		o := shape{kind: api.React}.op(1)
		o.Body = text(n)
		checks(t, "a React with a Body", o, api.OK)
	}
}

// P11.2: of a Guard as many are needed as it has Guards, or fewer, and it has as many boxes; a Refresh has up to six.
func TestGuards(t *testing.T) {
	for n := range 9 {
		for need := -1; need <= 10; need++ {
			for many := range 10 {
				o := shape{kind: api.Guard}.op(1)
				o.Guards, o.Need, o.Boxes = rising[int](n), need, boxes(many, 50)
				want := api.OK
				switch {
				case need < 1 || need > n:
					want = api.ErrRange
				case n > 6 || many != n:
					want = api.ErrLong
				}
				checks(t, "a Guard", o, want)
			}
		}
		for kind, want := range map[int]bool{api.Refresh: n >= 1 && n <= 6, api.Vouch: n == 1} {
			o := shape{kind: kind}.op(1)
			o.Boxes = boxes(n, 50)
			if want {
				checks(t, "with boxes", o, api.OK)
			} else {
				checks(t, "with boxes", o, api.ErrLong)
			}
		}
	}
	for _, guards := range [][]int{{1}, {12}, {1, 12}, {7, 8, 9, 10, 11, 12}} {
		o := shape{kind: api.Guard}.op(1)
		o.Guards, o.Boxes, o.Need = guards, boxes(len(guards), 50), len(guards)
		checks(t, "a Guard", o, api.OK)
	}
}

// P11.2: what is removed is a device or a member, just one of both.
func TestRemoved(t *testing.T) {
	numbers := []int{math.MinInt, -13, -9, -8, -1, 0, 1, 2, 7, 8, 9, 11, 12, 13, 1 << 32, 1<<32 + 1, math.MaxInt}
	for _, device := range numbers {
		for _, member := range numbers {
			o := shape{kind: api.Remove}.op(1)
			o.Device, o.Member = device, member
			want := api.ErrRange
			if device >= 1 && device <= 12 && member == 0 || device == 0 && member >= 1 && member <= 8 {
				want = api.OK
			}
			checks(t, "a Remove", o, want)
		}
	}
}

// P11.2: empty lists are as good as none, where the kind has none, too; and any signature may be.
func TestEmptyIsNone(t *testing.T) {
	for _, s := range shapes() {
		o := s.op(1)
		for _, empty := range []func(){
			func() { o.Path = []api.Node{} }, func() { o.Refs = []uint64{} }, func() { o.Hist = []api.Sealed{} },
			func() {
				if s.kind != api.React {
					o.Body = []byte{}
				}
			},
			func() {
				if s.kind != api.Guard {
					o.Guards = []int{}
				}
			},
			func() {
				if len(o.Boxes) == 0 {
					o.Boxes = []api.Box{}
				}
			},
			func() {
				if s.kind == api.Create {
					o.Past = []api.Ident{}
				}
			},
			func() { o.Sig = api.Sig{} }, func() { o.Sig = api.Sig{R: p, S: math.MaxUint64} },
		} {
			empty()
			checks(t, s.name+" with empty lists", o, api.OK)
		}
	}
}
