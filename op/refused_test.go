package op_test

import (
	"bytes"
	"math"
	"slices"
	"strconv"
	"strings"
	"testing"

	"huddle/api"
)

// fault is a change by which an operation may not be any more.
type fault struct {
	change
	e api.Errno
}

// row is the one of the errors: which of two is told.
func row() []api.Errno {
	return []api.Errno{api.ErrArg, api.ErrRange, api.ErrLong, api.ErrOrder, api.ErrPast}
}

// worst is the first one of some errors in their row.
func worst(l ...api.Errno) api.Errno {
	return slices.MinFunc(l, func(a, b api.Errno) int { return slices.Index(row(), a) - slices.Index(row(), b) })
}

// of adds changes to faults.
func of(l []fault, e api.Errno, field, name string, do ...func(o *api.Op)) []fault {
	for _, d := range do {
		l = append(l, fault{change{field, name, d}, e})
	}
	return l
}

// strange are the faults of fields that a kind has not.
func strange(s shape) []fault {
	l := []fault{}
	for _, c := range fills() {
		if !slices.Contains(has(s.kind), c.field) {
			l = append(l, fault{c, api.ErrArg})
		}
	}
	return l
}

// beyond are the faults of numbers of an operation.
func beyond(s shape, size int) []fault {
	l := []fault{}
	for _, pl := range had(s.op(size)) {
		l = of(l, api.ErrRange, pl.field, pl.name, pl.wrong...)
	}
	return l
}

// long are the faults of how many there are.
func long(s shape) []fault {
	l := []fault{}
	for _, n := range []int{13, 14, 40} {
		if s.kind != api.Create {
			l = of(l, api.ErrLong, "Past", "a Past too long", func(o *api.Op) { o.Past = names(n) })
		}
	}
	for _, field := range has(s.kind) {
		switch field {
		case "Path":
			l = of(l, api.ErrLong, field, "a Path too long", func(o *api.Op) { o.Path = nodes(6, 0) }, func(o *api.Op) { o.Path = nodes(7, 12) })
			for i := range 5 {
				l = of(l, api.ErrLong, field, "a node with too many boxes", func(o *api.Op) { o.Path = nodes(5, 2); o.Path[i].Boxes = boxes(13, 50) })
			}
		case "Refs":
			l = of(l, api.ErrLong, field, "too many Refs", func(o *api.Op) { o.Refs = rising[uint64](9) }, func(o *api.Op) { o.Refs = rising[uint64](300) })
		case "Hist":
			l = of(l, api.ErrLong, field, "a Hist too long", func(o *api.Op) { o.Hist = sealed(21, 3) }, func(o *api.Op) { o.Hist = sealed(22, 0) })
			for i := range 20 {
				l = of(l, api.ErrLong, field, "an earlier message too long", func(o *api.Op) { o.Hist = sealed(20, 208); o.Hist[i].Body = text(209) })
			}
		case "Guards":
			l = of(l, api.ErrLong, field, "too many Guards", func(o *api.Op) { o.Guards, o.Boxes = rising[int](7), boxes(7, 50) }, func(o *api.Op) { o.Guards, o.Boxes = rising[int](12), boxes(12, 50) })
		}
	}
	return append(l, bodyLong(s)...)
}

// bodyLong are those of a Body, and of Boxes.
func bodyLong(s shape) []fault {
	l := []fault{}
	lengths := map[int][]int{api.Message: {209, 210, 1000}, api.React: {0, 21, 22, 208, 209}}
	for _, n := range lengths[s.kind] {
		l = of(l, api.ErrLong, "Body", "a Body of "+strconv.Itoa(n), func(o *api.Op) { o.Body = text(n) })
	}
	if s.kind == api.React {
		l = of(l, api.ErrLong, "Body", "no Body", func(o *api.Op) { o.Body = nil })
	}
	wrong := map[int][]int{api.Refresh: {0, 7, 8, 12}, api.Vouch: {0, 2, 3, 6, 7}}
	for _, n := range wrong[s.kind] {
		l = of(l, api.ErrLong, "Boxes", strconv.Itoa(n)+" Boxes", func(o *api.Op) { o.Boxes = boxes(n, 50) })
	}
	if s.kind == api.Guard {
		for _, more := range []int{-1, 1, 2, 6} {
			l = of(l, api.ErrLong, "Boxes", "not as many Boxes as Guards", func(o *api.Op) { o.Boxes = boxes(len(o.Guards)+more, 50) })
		}
		l = of(l, api.ErrLong, "Boxes", "no Boxes", func(o *api.Op) { o.Boxes = nil })
	}
	return l
}

// disordered are the faults of rows.
func disordered(s shape) []fault {
	l := []fault{}
	if s.kind != api.Create {
		l = append(l, disorderedPast()...)
	}
	if s.kind == api.Guard {
		for i := range 5 {
			l = of(l, api.ErrOrder, "Guards", "Guards swapped", func(o *api.Op) {
				guards(o, 6)
				o.Guards[i], o.Guards[i+1] = o.Guards[i+1], o.Guards[i]
			})
			l = of(l, api.ErrOrder, "Guards", "a guard twice", func(o *api.Op) { guards(o, 6); o.Guards[i+1] = o.Guards[i] })
		}
		l = of(l, api.ErrOrder, "Guards", "two Guards swapped", func(o *api.Op) { guards(o, 2); o.Guards = []int{12, 1} })
	}
	return l
}

// guards gives a Guard n guards, and as many boxes.
func guards(o *api.Op, n int) { o.Guards, o.Boxes, o.Need = rising[int](n), boxes(n, 50), 1 }

// disorderedPast are those of a Past.
func disorderedPast() []fault {
	l := []fault{}
	for _, n := range []int{2, 3, 12} {
		for i := range n - 1 {
			l = of(l, api.ErrOrder, "Past", "names of Past swapped", func(o *api.Op) {
				o.Past = names(n)
				o.Past[i], o.Past[i+1] = o.Past[i+1], o.Past[i]
			})
			l = of(l, api.ErrOrder, "Past", "a name of Past twice", func(o *api.Op) { o.Past = names(n); o.Past[i+1] = o.Past[i] })
		}
	}
	for _, past := range [][]api.Ident{
		{{By: 2, Seq: 1, Sum: 1}, {By: 1, Seq: 2, Sum: 2}}, {{By: 1, Seq: 2, Sum: 1}, {By: 1, Seq: 1, Sum: 2}}, {{By: 1, Seq: 1, Sum: 2}, {By: 1, Seq: 1, Sum: 1}},
		{{By: 1, Seq: 1, Sum: p - 1}, {By: 1, Seq: 1, Sum: 0}}, {{By: 1, Seq: 10, Sum: 1}, {By: 1, Seq: 9, Sum: 1}}, {{By: 10, Seq: 1, Sum: 1}, {By: 9, Seq: 1, Sum: 1}},
		{{By: 1, Seq: 1, Sum: 1}, {By: 3, Seq: 1, Sum: 1}, {By: 2, Seq: 1, Sum: 1}}, {{By: 12, Seq: most, Sum: p - 1}, {By: 12, Seq: most, Sum: p - 1}},
	} {
		l = of(l, api.ErrOrder, "Past", "a Past in the wrong row", func(o *api.Op) { o.Past = slices.Clone(past) })
	}
	return l
}

// parents are the faults of a Past that may not be, or has to be.
func parents(s shape) []fault {
	if s.kind != api.Create {
		return of(nil, api.ErrPast, "Past", "no Past", func(o *api.Op) { o.Past = nil }, func(o *api.Op) { o.Past = []api.Ident{} })
	}
	l := []fault{}
	for _, n := range []int{1, 2, 12} {
		l = of(l, api.ErrPast, "Past", "a Past of a Create", func(o *api.Op) { o.Past = names(n) })
	}
	return l
}

// faults are all of an operation of some size, each one by itself.
func faults(s shape, size int) []fault {
	return slices.Concat(strange(s), beyond(s, size), long(s), disordered(s), parents(s))
}

// P11.2: each fault by itself, of small operations and of those that are as great as may be.
func TestRefused(t *testing.T) {
	for _, s := range shapes() {
		told := map[api.Errno]int{}
		for _, size := range []int{1, 3, 300} {
			for _, f := range faults(s, size) {
				o := s.op(size)
				f.do(&o)
				checks(t, s.name+", "+f.name, o, f.e)
				told[f.e]++
			}
		}
		for _, e := range row() {
			if told[e] == 0 && (e != api.ErrOrder || s.kind != api.Create) {
				t.Errorf("%s is never refused by %d", s.name, e)
			}
		}
	}
}

// P11.2: a Kind that is none, whatever else the operation has.
func TestNoKind(t *testing.T) {
	for _, kind := range []int{0, -1, 14, 15, 16, 127, 255, 256, 257, 1<<32 + 1, 1<<62 + 2, math.MinInt, math.MinInt + 1, math.MaxInt} {
		for _, s := range shapes() {
			o := s.op(2)
			o.Kind = kind
			checks(t, "no Kind", o, api.ErrArg)
			checks(t, "no Kind", api.Op{By: 1, Seq: 1, Kind: kind, Past: o.Past}, api.ErrArg)
			checks(t, "no Kind", api.Op{Kind: kind}, api.ErrArg)
		}
		o := full(20)
		o.Kind = kind
		checks(t, "no Kind, and all fields", o, api.ErrArg)
	}
}

// some are a few of the faults: of each error, and of each field, one.
func some(s shape) []fault {
	l, seen := []fault{}, map[string]bool{}
	for _, f := range faults(s, 3) {
		// Numbers of one field that stand at unlike places are looked at by themselves.
		if which := f.field + strconv.Itoa(int(f.e)); !seen[which] || f.field == "" && f.e == api.ErrRange {
			seen[which] = true
			l = append(l, f)
		}
	}
	return l
}

// P11.2: of two faults, and of more, the first one of the row is told.
func TestFirstOfSeveral(t *testing.T) {
	pairs := map[[2]api.Errno]int{}
	for _, s := range shapes() {
		l := some(s)
		for _, a := range l {
			for _, b := range l {
				if meet(a, b) {
					continue
				}
				o := s.op(3)
				a.do(&o)
				b.do(&o)
				checks(t, s.name+", "+a.name+", "+b.name, o, worst(a.e, b.e))
				pairs[[2]api.Errno{a.e, b.e}]++
				for _, c := range l {
					if meet(a, c) || meet(b, c) {
						continue
					}
					o := copied(o)
					c.do(&o)
					checks(t, s.name+", "+a.name+", "+b.name+", "+c.name, o, worst(a.e, b.e, c.e))
				}
			}
		}
	}
	for i, a := range row() {
		for _, b := range row()[i+1:] {
			if pairs[[2]api.Errno{a, b}] == 0 {
				t.Errorf("no operation has both %d and %d", a, b)
			}
		}
	}
}

// meet tells whether two faults change the same field, or fields that hang together, so that one may undo the other.
func meet(a, b fault) bool {
	guards := func(f fault) bool { return f.field == "Guards" || f.field == "Need" || f.field == "Boxes" }
	places := a.name != b.name && a.field == "" && b.field == ""
	return a.field == b.field && !places || guards(a) && guards(b)
}

// P11.2: faults of one and the same field.
func TestFirstOfOneField(t *testing.T) {
	backward := func(n int) []api.Ident {
		l := names(n)
		slices.Reverse(l)
		return l
	}
	wrong := func(l []api.Ident) []api.Ident {
		l[len(l)-1].Sum = p
		return l
	}
	for _, x := range []struct {
		kind int
		past []api.Ident
		want api.Errno
	}{
		{api.Create, names(1), api.ErrPast}, {api.Create, names(12), api.ErrPast}, {api.Create, backward(12), api.ErrOrder},
		{api.Create, names(13), api.ErrLong}, {api.Create, backward(13), api.ErrLong}, {api.Create, wrong(names(1)), api.ErrRange},
		{api.Create, wrong(names(12)), api.ErrRange}, {api.Create, wrong(backward(13)), api.ErrRange}, {api.Create, make([]api.Ident, 1), api.ErrRange},
		{api.Create, []api.Ident{names(1)[0], names(1)[0]}, api.ErrOrder},
		{api.Erase, backward(13), api.ErrLong}, {api.Erase, wrong(names(13)), api.ErrRange}, {api.Erase, wrong(backward(2)), api.ErrRange},
		{api.Erase, make([]api.Ident, 13), api.ErrRange}, {api.Erase, nil, api.ErrPast},
	} {
		o := shape{kind: x.kind}.op(1)
		o.Past = x.past
		checks(t, "a Past", o, x.want)
	}
	for _, x := range []struct {
		guards           []int
		need, wait, many int
		want             api.Errno
	}{
		{[]int{2, 1}, 1, 0, 2, api.ErrOrder}, {[]int{1, 1}, 2, 0, 2, api.ErrOrder}, {[]int{2, 1}, 1, 0, 1, api.ErrLong}, {[]int{2, 1}, 3, 0, 2, api.ErrRange},
		{[]int{2, 0}, 1, 0, 2, api.ErrRange}, {[]int{1, 2, 3, 4, 5, 6, 6}, 1, 0, 7, api.ErrLong}, {[]int{7, 6, 5, 4, 3, 2, 1}, 7, 0, 7, api.ErrLong},
		{[]int{7, 6, 5, 4, 3, 2, 1}, 8, 0, 7, api.ErrRange}, {[]int{1, 2, 3, 4, 5, 13, 6}, 1, 0, 7, api.ErrRange}, {nil, 0, 0, 0, api.ErrRange}, {nil, 1, 0, 1, api.ErrRange},
		{[]int{1}, 1, -1, 2, api.ErrRange}, {[]int{1}, 0, 0, 0, api.ErrRange},
	} {
		o := shape{kind: api.Guard}.op(1)
		o.Guards, o.Need, o.Wait, o.Boxes = x.guards, x.need, x.wait, boxes(x.many, 50)
		checks(t, "a Guard", o, x.want)
	}
}

// P11.2: something of all five at once, and of fewer.
func TestAllFaults(t *testing.T) {
	o := shape{kind: api.Guard}.op(6)
	o.Past = nil
	checks(t, "no Past", o, api.ErrPast)
	o.Guards[0] = 2
	checks(t, "and a guard twice", o, api.ErrOrder)
	o.Boxes = append(o.Boxes, boxes(1, 50)...)
	checks(t, "and one box too many", o, api.ErrLong)
	o.At = -1
	checks(t, "and an At that may not be", o, api.ErrRange)
	o.Body = []byte{0}
	checks(t, "and a Body", o, api.ErrArg)
	o = shape{kind: api.Create}.op(3)
	o.Past = names(13)
	slices.Reverse(o.Past)
	checks(t, "a Past too long in the wrong row", o, api.ErrLong)
	o.By = 0
	checks(t, "by nobody", o, api.ErrRange)
	o.Wait = 1
	checks(t, "that waits", o, api.ErrArg)
}

// What may be does not hang on what texts say.
func TestAnyBody(t *testing.T) {
	for _, b := range []string{"\x00", strings.Repeat("\xff", 20), "gr\u00fcn"} {
		o := shape{kind: api.React}.op(1)
		o.Body = []byte(b)
		checks(t, "a React", o, api.OK)
		o = shape{kind: api.Message}.op(1)
		o.Body = bytes.Repeat([]byte(b), 208/len(b))
		checks(t, "a Message", o, api.OK)
	}
}
