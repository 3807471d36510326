package op_test

import (
	"bytes"
	"math"
	"reflect"
	"slices"
	"strconv"
	"strings"

	"huddle/api"
)

const (
	p    = api.P
	most = api.MaxTime
)

// has is the chapter's table: what each kind has, beside what all have.
func has(kind int) []string {
	return strings.Fields(map[int]string{
		api.Create:  "Path Need",
		api.Add:     "Device Role Path Hist",
		api.Remove:  "Device Member Path",
		api.Update:  "Path",
		api.Promote: "Member Role",
		api.Message: "Epoch N Body Refs",
		api.React:   "Of Body",
		api.Erase:   "Of",
		api.Guard:   "Guards Need Wait Boxes Pub",
		api.Refresh: "Of Boxes",
		api.Vouch:   "Of Device Boxes",
		api.Object:  "Of",
		api.Replace: "Of Device Old Path Hist",
	}[kind])
}

// names are n names in their row: 13 and more of them, too.
func names(n int) []api.Ident {
	l := make([]api.Ident, n)
	for i := range l {
		l[i] = api.Ident{By: 1 + i%12, Seq: 3 + i, Sum: uint64(1000 - i)}
	}
	slices.SortFunc(l, func(a, b api.Ident) int { return a.By*1000 + a.Seq - b.By*1000 - b.Seq })
	return l
}

// boxes are n boxes, all of their numbers unlike.
func boxes(n, from int) []api.Box {
	l := make([]api.Box, n)
	for i := range l {
		k := uint64(from + 4*i)
		l[i] = api.Box{To: k, Eph: k + 1, Body: k + 2, Tag: k + 3}
	}
	return l
}

// nodes are n nodes, each with some boxes.
func nodes(n, each int) []api.Node {
	l := make([]api.Node, n)
	for i := range l {
		l[i] = api.Node{Pub: uint64(500 + i), Boxes: boxes(each, 600+100*i)}
	}
	return l
}

// text are n bytes.
func text(n int) []byte {
	b := make([]byte, n)
	for i := range b {
		b[i] = byte(7*i + n)
	}
	return b
}

// sealed are n earlier messages.
func sealed(n, each int) []api.Sealed {
	l := make([]api.Sealed, n)
	for i := range l {
		l[i] = api.Sealed{Of: api.Ident{By: 1 + i%12, Seq: 70 + i, Sum: uint64(80 + i)}, Body: text(each)}
	}
	return l
}

// rising are n numbers, from 1 on.
func rising[T int | uint64](n int) []T {
	l := make([]T, n)
	for i := range l {
		l[i] = T(i + 1)
	}
	return l
}

// full has all fields, and n of everything in it. (So it is no operation that may be.)
func full(n int) api.Op {
	return api.Op{
		By: 3, Seq: 17, Kind: api.Message, At: 900, Past: names(n), Device: 4, Old: 5, Member: 6, Role: 2, Path: nodes(n, n),
		Epoch: api.Ident{By: 7, Seq: 8, Sum: 99999}, N: 21, Body: text(n), Refs: rising[uint64](n), Of: api.Ident{By: 9, Seq: 10, Sum: 88888},
		Guards: rising[int](n), Need: 11, Wait: 12, Boxes: boxes(n, 3000), Pub: 4000, Hist: sealed(n, n), Sig: api.Sig{R: 5000, S: 6000},
	}
}

// keep takes from an operation what its kind has not.
func keep(o api.Op) api.Op {
	for name, empty := range map[string]func(){
		"Device": func() { o.Device = 0 }, "Old": func() { o.Old = 0 }, "Member": func() { o.Member = 0 }, "Role": func() { o.Role = 0 },
		"Path": func() { o.Path = nil }, "Epoch": func() { o.Epoch = api.Ident{} }, "N": func() { o.N = 0 }, "Body": func() { o.Body = nil },
		"Refs": func() { o.Refs = nil }, "Of": func() { o.Of = api.Ident{} }, "Guards": func() { o.Guards = nil }, "Need": func() { o.Need = 0 },
		"Wait": func() { o.Wait = 0 }, "Boxes": func() { o.Boxes = nil }, "Pub": func() { o.Pub = 0 }, "Hist": func() { o.Hist = nil },
	} {
		if !slices.Contains(has(o.Kind), name) {
			empty()
		}
	}
	return o
}

// shape is a kind; of a Remove, what is removed, too.
type shape struct {
	name   string
	kind   int
	member bool
}

// shapes are all kinds; a Remove of a device, and one of a member.
func shapes() []shape {
	l := []shape{{"Remove of a member", api.Remove, true}}
	for i, name := range strings.Fields("Create Add Remove Update Promote Message React Erase Guard Refresh Vouch Object Replace") {
		l = append(l, shape{name: name, kind: i + 1})
	}
	return l
}

// op is an operation of the shape that may be, with n of everything, as far as so many may be.
func (s shape) op(n int) api.Op {
	o := full(0)
	o.Kind = s.kind
	o.Past, o.Path, o.Refs = names(max(1, min(n, 12))), nodes(min(n, 5), min(n, 12)), rising[uint64](min(n, 8))
	o.Body, o.Hist, o.Guards = text(min(n, 208)), sealed(min(n, 20), min(n, 208)), rising[int](max(1, min(n, 6)))
	o.Boxes, o.Need = boxes(max(1, min(n, 6)), 3000), 1
	switch {
	case s.kind == api.Create:
		o.Past = nil
	case s.kind == api.React:
		o.Body = text(max(1, min(n, 20)))
	case s.kind == api.Vouch:
		o.Boxes = boxes(1, 3000)
	case s.member:
		o.Device = 0
	case s.kind == api.Remove:
		o.Member = 0
	}
	return keep(o)
}

// place is where a number stands in an operation. What it tells are changes of it.
type place struct {
	field, name string
	// edges are the least and the greatest that may be there.
	edges []func(o *api.Op)
	// wrong may not be there.
	wrong []func(o *api.Op)
	// others are unlike the one that is there.
	others []func(o *api.Op)
}

// at is a place of which the number may be from least to most.
func at[T int | uint64](field, name string, where func(o *api.Op) *T, least, most T, beyond ...T) place {
	set := func(to T) func(o *api.Op) { return func(o *api.Op) { *where(o) = to } }
	pl := place{field: field, name: name, edges: []func(o *api.Op){set(least), set(most)}, wrong: []func(o *api.Op){set(most + 1)}}
	if least-1 < least { // below 0 there is nothing without a sign
		pl.wrong = append(pl.wrong, set(least-1))
	}
	for _, to := range beyond {
		pl.wrong = append(pl.wrong, set(to))
	}
	for _, other := range []func(n T) T{
		func(n T) T { return n + 1 }, func(n T) T { return n - 1 }, func(n T) T { return n ^ 1<<40 }, func(n T) T { return n ^ T(1)<<63 },
	} {
		pl.others = append(pl.others, func(o *api.Op) { *where(o) = other(*where(o)) })
	}
	return pl
}

func intAt(field, name string, where func(o *api.Op) *int, least, most int) place {
	return at(field, name, where, least, most, math.MinInt, math.MaxInt, -least-1, least-1<<32, least+1<<32)
}

func wordAt(field, name string, where func(o *api.Op) *uint64, least uint64) place {
	return at(field, name, where, least, p-1, p+1, 1<<61, 1<<63, math.MaxUint64)
}

func nameAt(field, name string, where func(o *api.Op) *api.Ident) []place {
	return []place{
		intAt(field, name+"'s By", func(o *api.Op) *int { return &where(o).By }, 1, 12),
		intAt(field, name+"'s Seq", func(o *api.Op) *int { return &where(o).Seq }, 1, most),
		wordAt(field, name+"'s Sum", func(o *api.Op) *uint64 { return &where(o).Sum }, 0),
	}
}

func boxesAt(field, name string, n int, where func(o *api.Op) []api.Box) []place {
	l := []place{}
	for i := range n {
		which := name + "'s box " + strconv.Itoa(i)
		l = append(l,
			wordAt(field, which+"'s To", func(o *api.Op) *uint64 { return &where(o)[i].To }, 1),
			wordAt(field, which+"'s Eph", func(o *api.Op) *uint64 { return &where(o)[i].Eph }, 1),
			wordAt(field, which+"'s Body", func(o *api.Op) *uint64 { return &where(o)[i].Body }, 0),
			wordAt(field, which+"'s Tag", func(o *api.Op) *uint64 { return &where(o)[i].Tag }, 0))
	}
	return l
}

// places are all places of the numbers of operations that have as much as this one, but of their Kind and their Sig, with what may be there by the chapter. (Which of Device and Member a Remove has is looked at elsewhere.)
func places(o api.Op) []place {
	needed := []int{0, 20}
	if o.Kind == api.Guard {
		needed = []int{1, len(o.Guards)}
	}
	return slices.Concat([]place{
		intAt("", "By", func(o *api.Op) *int { return &o.By }, 1, 12),
		intAt("", "Seq", func(o *api.Op) *int { return &o.Seq }, 1, most),
		intAt("", "At", func(o *api.Op) *int { return &o.At }, 0, most),
		intAt("Device", "Device", func(o *api.Op) *int { return &o.Device }, 1, 12),
		intAt("Old", "Old", func(o *api.Op) *int { return &o.Old }, 1, 12),
		intAt("Member", "Member", func(o *api.Op) *int { return &o.Member }, 1, 8),
		intAt("Role", "Role", func(o *api.Op) *int { return &o.Role }, 1, 3),
		intAt("N", "N", func(o *api.Op) *int { return &o.N }, 0, most),
		intAt("Need", "Need", func(o *api.Op) *int { return &o.Need }, needed[0], needed[1]),
		intAt("Wait", "Wait", func(o *api.Op) *int { return &o.Wait }, 0, most),
		wordAt("Pub", "Pub", func(o *api.Op) *uint64 { return &o.Pub }, 1),
	},
		nameAt("Epoch", "Epoch", func(o *api.Op) *api.Ident { return &o.Epoch }),
		nameAt("Of", "Of", func(o *api.Op) *api.Ident { return &o.Of }),
		placesInLists(o))
}

func placesInLists(o api.Op) []place {
	l := boxesAt("Boxes", "Boxes", len(o.Boxes), func(o *api.Op) []api.Box { return o.Boxes })
	for i := range o.Past {
		l = append(l, nameAt("Past", "Past "+strconv.Itoa(i), func(o *api.Op) *api.Ident { return &o.Past[i] })...)
	}
	for i, node := range o.Path {
		name := "node " + strconv.Itoa(i)
		l = append(l, wordAt("Path", name+"'s Pub", func(o *api.Op) *uint64 { return &o.Path[i].Pub }, 1))
		l = append(l, boxesAt("Path", name, len(node.Boxes), func(o *api.Op) []api.Box { return o.Path[i].Boxes })...)
	}
	for i := range o.Refs {
		l = append(l, wordAt("Refs", "ref "+strconv.Itoa(i), func(o *api.Op) *uint64 { return &o.Refs[i] }, 0))
	}
	for i := range o.Guards {
		l = append(l, intAt("Guards", "guard "+strconv.Itoa(i), func(o *api.Op) *int { return &o.Guards[i] }, 1, 12))
	}
	for i := range o.Hist {
		l = append(l, nameAt("Hist", "Hist "+strconv.Itoa(i), func(o *api.Op) *api.Ident { return &o.Hist[i].Of })...)
	}
	return l
}

// had are the places that an operation's kind has.
func had(o api.Op) []place {
	return slices.DeleteFunc(places(o), func(pl place) bool {
		// A Remove's zero is that of what it does not remove.
		zero := o.Kind == api.Remove && (pl.field == "Device" && o.Device == 0 || pl.field == "Member" && o.Member == 0)
		return zero || pl.field != "" && pl.field != "Past" && !slices.Contains(has(o.Kind), pl.field)
	})
}

// change is something that is done with an operation.
type change struct {
	field, name string
	do          func(o *api.Op)
}

// fills are ways to make a field not zero, or not empty; numbers and items that may be there, and others.
func fills() []change {
	l := []change{}
	for _, n := range []int{1, 2, -1, 13, math.MinInt} {
		name := " is " + strconv.Itoa(n)
		l = append(l, change{"Device", "Device" + name, func(o *api.Op) { o.Device = n }}, change{"Old", "Old" + name, func(o *api.Op) { o.Old = n }},
			change{"Member", "Member" + name, func(o *api.Op) { o.Member = n }}, change{"Role", "Role" + name, func(o *api.Op) { o.Role = n }},
			change{"N", "N" + name, func(o *api.Op) { o.N = n }}, change{"Need", "Need" + name, func(o *api.Op) { o.Need = n }},
			change{"Wait", "Wait" + name, func(o *api.Op) { o.Wait = n }}, change{"Pub", "Pub" + name, func(o *api.Op) { o.Pub = uint64(n) }})
	}
	for _, id := range []api.Ident{{By: 1}, {Seq: 1}, {Sum: 1}, {By: 1, Seq: 1, Sum: 1}, {By: -1}, {Sum: math.MaxUint64}} {
		l = append(l, change{"Epoch", "an Epoch", func(o *api.Op) { o.Epoch = id }}, change{"Of", "an Of", func(o *api.Op) { o.Of = id }})
	}
	for _, n := range []int{1, 3} {
		l = append(l, change{"Path", "a Path", func(o *api.Op) { o.Path = nodes(n, n) }}, change{"Path", "a Path of zeros", func(o *api.Op) { o.Path = make([]api.Node, n) }},
			change{"Body", "a Body", func(o *api.Op) { o.Body = text(n) }}, change{"Body", "a Body of zeros", func(o *api.Op) { o.Body = make([]byte, n) }},
			change{"Refs", "Refs", func(o *api.Op) { o.Refs = rising[uint64](n) }}, change{"Refs", "Refs of zeros", func(o *api.Op) { o.Refs = make([]uint64, n) }},
			change{"Guards", "Guards", func(o *api.Op) { o.Guards = rising[int](n) }}, change{"Guards", "Guards of zeros", func(o *api.Op) { o.Guards = make([]int, n) }},
			change{"Boxes", "Boxes", func(o *api.Op) { o.Boxes = boxes(n, 1) }}, change{"Boxes", "Boxes of zeros", func(o *api.Op) { o.Boxes = make([]api.Box, n) }},
			change{"Hist", "a Hist", func(o *api.Op) { o.Hist = sealed(n, n) }}, change{"Hist", "a Hist of zeros", func(o *api.Op) { o.Hist = make([]api.Sealed, n) }})
	}
	return l
}

// turn is one change of one field, or of one item, or of how many there are.
type turn struct {
	name string
	do   func(o *api.Op)
}

// turns are all changes of an operation by which one field, or item, or number of items, is another one; but those of its Sig.
func turns(o api.Op) []turn {
	l := []turn{}
	for _, pl := range places(o) {
		for _, other := range pl.others {
			l = append(l, turn{pl.name, other})
		}
	}
	for _, kind := range []int{0, -1, o.Kind + 1, o.Kind + 256} {
		l = append(l, turn{"Kind", func(o *api.Op) { o.Kind = kind }})
	}
	for name, list := range map[string]func(o *api.Op, do string) bool{
		"Past": func(o *api.Op, do string) bool { return turned(&o.Past, do) }, "Path": func(o *api.Op, do string) bool { return turned(&o.Path, do) },
		"Body": func(o *api.Op, do string) bool { return turned(&o.Body, do) }, "Refs": func(o *api.Op, do string) bool { return turned(&o.Refs, do) },
		"Guards": func(o *api.Op, do string) bool { return turned(&o.Guards, do) }, "Boxes": func(o *api.Op, do string) bool { return turned(&o.Boxes, do) },
		"Hist":          func(o *api.Op, do string) bool { return turned(&o.Hist, do) },
		"a node's":      func(o *api.Op, do string) bool { return len(o.Path) > 0 && turned(&o.Path[len(o.Path)-1].Boxes, do) },
		"a Hist's Body": func(o *api.Op, do string) bool { return len(o.Hist) > 0 && turned(&o.Hist[len(o.Hist)-1].Body, do) },
	} {
		for _, do := range []string{"one more", "one ahead", "without the first", "without the last", "empty", "the first ones swapped"} {
			if try := copied(o); list(&try, do) {
				l = append(l, turn{name + " " + do, func(o *api.Op) { list(o, do) }})
			}
		}
	}
	return slices.DeleteFunc(append(l, bytesTurned(o)...), func(one turn) bool {
		// Where all items are the same there is no change in swapping two.
		other := copied(o)
		one.do(&other)
		return reflect.DeepEqual(other, o)
	})
}

// turned changes a list; it tells whether it could be.
func turned[T any](l *[]T, do string) bool {
	var zero T
	n := len(*l)
	switch {
	case do == "one more":
		*l = append(slices.Clone(*l), zero)
	case do == "one ahead":
		*l = slices.Insert(slices.Clone(*l), 0, zero)
	case n == 0:
		return false
	case do == "without the first":
		*l = slices.Clone((*l)[1:])
	case do == "without the last":
		*l = slices.Clone((*l)[:n-1])
	case do == "empty":
		*l = nil
	case n == 1:
		return false
	default:
		*l = slices.Clone(*l)
		(*l)[0], (*l)[1] = (*l)[1], (*l)[0]
	}
	return true
}

// bytesTurned turn each byte of a Body, and of those of Hist.
func bytesTurned(o api.Op) []turn {
	l := []turn{}
	for i := range o.Body {
		l = append(l, turn{"a byte of Body", func(o *api.Op) { o.Body = bytes.Clone(o.Body); o.Body[i] ^= 0x80 }})
	}
	for i := range o.Hist {
		for k := range o.Hist[i].Body {
			l = append(l, turn{"a byte of a Hist's Body", func(o *api.Op) { o.Hist[i].Body = bytes.Clone(o.Hist[i].Body); o.Hist[i].Body[k] ^= 1 }})
		}
	}
	return l
}

// copied is an operation in other memory.
func copied(o api.Op) api.Op {
	o.Past, o.Body, o.Refs = slices.Clone(o.Past), bytes.Clone(o.Body), slices.Clone(o.Refs)
	o.Guards, o.Boxes = slices.Clone(o.Guards), slices.Clone(o.Boxes)
	o.Path, o.Hist = slices.Clone(o.Path), slices.Clone(o.Hist)
	for i := range o.Path {
		o.Path[i].Boxes = slices.Clone(o.Path[i].Boxes)
	}
	for i := range o.Hist {
		o.Hist[i].Body = bytes.Clone(o.Hist[i].Body)
	}
	return o
}
