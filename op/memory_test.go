package op_test

import (
	"bytes"
	"reflect"
	"slices"
	"strconv"
	"testing"

	"huddle/api"
	"huddle/op"
	"huddle/sign"
)

// spare is a list with room behind it, in which something stands.
func spare[T any](l []T, there T) []T {
	return append(slices.Clone(l), slices.Repeat([]T{there}, 5)...)[:len(l)]
}

// roomy is an operation of which all lists have room to spare.
func roomy(o api.Op) api.Op {
	id, box := api.Ident{By: 77, Seq: 77, Sum: 77}, api.Box{To: 77, Eph: 77, Body: 77, Tag: 77}
	o.Past, o.Body, o.Refs = spare(o.Past, id), spare(o.Body, 77), spare(o.Refs, 77)
	o.Guards, o.Boxes = spare(o.Guards, 77), spare(o.Boxes, box)
	o.Path, o.Hist = spare(o.Path, api.Node{Pub: 77}), spare(o.Hist, api.Sealed{Of: id})
	for i := range o.Path {
		o.Path[i].Boxes = spare(o.Path[i].Boxes, box)
	}
	for i := range o.Hist {
		o.Hist[i].Body = spare(o.Hist[i].Body, 77)
	}
	return o
}

// whole is a list with its spare room.
func whole[T any](l []T) []T { return l[:cap(l)] }

// kept is a copy of an operation, with all spare room.
func kept(o api.Op) api.Op {
	o.Past, o.Body, o.Refs = whole(o.Past), whole(o.Body), whole(o.Refs)
	o.Guards, o.Boxes, o.Path, o.Hist = whole(o.Guards), whole(o.Boxes), whole(o.Path), whole(o.Hist)
	o = copied(o)
	for i := range o.Path {
		o.Path[i].Boxes = slices.Clone(whole(o.Path[i].Boxes))
	}
	for i := range o.Hist {
		o.Hist[i].Body = slices.Clone(whole(o.Hist[i].Body))
	}
	return o
}

// scribble changes all of a list, and its spare room.
func scribble[T any](l []T, one T) {
	for i := range whole(l) {
		whole(l)[i] = one
	}
}

// list is one of an operation's lists, with its spare room: what stands in it itself, and not in lists of its items.
type list struct {
	name     string
	is       func() any
	scribble func()
}

func plain[T any](name string, l []T, one T) list {
	return list{name, func() any { return slices.Clone(whole(l)) }, func() { scribble(l, one) }}
}

// listsOf are all lists of an operation, at every depth.
func listsOf(o api.Op) []list {
	id, box := api.Ident{By: 88, Seq: 88, Sum: 88}, api.Box{To: 88, Eph: 88, Body: 88, Tag: 88}
	l := []list{
		plain("Past", o.Past, id), plain("Body", o.Body, 88), plain("Refs", o.Refs, 88), plain("Guards", o.Guards, 88), plain("Boxes", o.Boxes, box),
		{"Path", func() any {
			pubs := []uint64{}
			for _, node := range whole(o.Path) {
				pubs = append(pubs, node.Pub)
			}
			return pubs
		}, func() { scribble(o.Path, api.Node{Pub: 88}) }},
		{"Hist", func() any {
			ids := []api.Ident{}
			for _, sealed := range whole(o.Hist) {
				ids = append(ids, sealed.Of)
			}
			return ids
		}, func() { scribble(o.Hist, api.Sealed{Of: id}) }},
	}
	for i, node := range o.Path {
		l = append(l, plain("the Boxes of node "+strconv.Itoa(i), node.Boxes, box))
	}
	for i, sealed := range o.Hist {
		l = append(l, plain("the Body of Hist "+strconv.Itoa(i), sealed.Body, 88))
	}
	return l
}

// What is handed in is left as it was, its spare room too, whatever is asked.
func TestHandedIn(t *testing.T) {
	for _, was := range few() {
		o := roomy(was)
		before := kept(o)
		for name, ask := range map[string]func(){
			"Check": func() { op.Check(o) }, "Put": func() { scribble(op.Put(o), 88) }, "ID": func() { op.ID(o) }, "Sign": func() { op.Sign(5, o) },
			"Verify": func() { op.Verify(api.Card{Device: o.By, Sign: sign.Pub(5)}, o) }, "Same": func() { op.Same(o, o); op.Same(o, was); op.Same(was, o) },
		} {
			ask()
			if after := kept(o); !reflect.DeepEqual(after, before) {
				t.Errorf("%s: %.200v was changed into %.200v", name, before, after)
			}
		}
		b := spare(op.Put(o), 77)
		all := slices.Clone(whole(b))
		op.Get(b)
		op.Get(b[:len(b)-1])
		op.Get(b[:len(b)+2])
		if !bytes.Equal(whole(b), all) {
			t.Errorf("Get: %v was changed into %v", all, whole(b))
		}
	}
}

// What stands in spare room does not count.
func TestSpareRoom(t *testing.T) {
	for _, was := range few() {
		o := roomy(was)
		if op.Check(o) != op.Check(was) || op.ID(o) != op.ID(was) || !bytes.Equal(op.Put(o), op.Put(was)) || !op.Same(o, was) || op.Sign(5, o).Sig != op.Sign(5, was).Sig {
			t.Errorf("with room to spare it is another one: %.200v", was)
		}
	}
}

// stays holds that of what is told each list may be changed: what was handed in, all other lists, and what is told again stay as they were.
func stays(t *testing.T, what string, tell func() api.Op, handed func() any) {
	t.Helper()
	first, was := tell(), handed()
	want := copied(first)
	for i, one := range listsOf(first) {
		lists, before := listsOf(tell()), []any{}
		for _, other := range lists {
			before = append(before, other.is())
		}
		lists[i].scribble()
		for k, other := range lists {
			if k != i && !reflect.DeepEqual(other.is(), before[k]) {
				t.Errorf("%s: %s is changed with %s", what, other.name, one.name)
			}
		}
		if !reflect.DeepEqual(handed(), was) || !equal(first, want) || !equal(tell(), want) {
			t.Errorf("%s: something else is changed with %s", what, one.name)
		}
	}
}

// What Sign and Get tell is new memory at every depth, and no two lists of it share any.
func TestTold(t *testing.T) {
	for _, was := range few() {
		o := roomy(was)
		stays(t, "Sign", func() api.Op { return op.Sign(5, o) }, func() any { return kept(o) })
		b := op.Put(o)
		stays(t, "Get", func() api.Op { o, _ := op.Get(b); return o }, func() any { return slices.Clone(b) })
	}
}

// What was told does not change with what was handed in.
func TestHandedInChanged(t *testing.T) {
	for _, was := range few() {
		o := roomy(was)
		signed, put := op.Sign(5, o), op.Put(o)
		want, wantPut := copied(signed), slices.Clone(put)
		for _, one := range listsOf(o) {
			one.scribble()
		}
		if !equal(signed, want) || !bytes.Equal(put, wantPut) {
			t.Errorf("what was told changed: %.200v", signed)
		}
		b := slices.Clone(put)
		got, _ := op.Get(b)
		scribble(b, 88)
		if !equal(got, was) {
			t.Errorf("what was got changed: %.200v", got)
		}
		scribble(put, 88)
		if !bytes.Equal(op.Put(was), wantPut) {
			t.Errorf("what is put changed with what was put: %.200v", was)
		}
	}
}

// What is told hangs on what is handed in alone: the same is told whenever it is asked, whatever was asked ahead.
func TestAskedAgain(t *testing.T) {
	o := shape{kind: api.Guard}.op(3)
	signed := op.Sign(5, o)
	for range 3 {
		checks(t, "again", o, api.OK)
		gets(t, op.Put(signed), signed)
		same(t, "again", op.Sign(5, o), signed, true)
		for _, other := range few() {
			op.Check(other)
			op.Get(op.Put(other)[1:])
			op.Sign(6, other)
			op.Same(other, o)
		}
	}
}
