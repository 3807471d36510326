package op_test

import (
	"bytes"
	"math"
	"slices"
	"testing"

	"huddle/api"
	"huddle/hash"
	"huddle/op"
	"huddle/sign"
)

// equal tells whether two operations are the same, by what they tell of themselves.
func equal(a, b api.Op) bool {
	x, _ := written(a)
	y, _ := written(b)
	return bytes.Equal(x, y)
}

// P11.1: which kinds give new secrets.
func TestCommit(t *testing.T) {
	for kind, want := range map[int]bool{
		api.Create: true, api.Add: true, api.Remove: true, api.Update: true, api.Promote: false, api.Message: false, api.React: false, api.Erase: false,
		api.Guard: false, api.Refresh: false, api.Vouch: false, api.Object: false, api.Replace: true,
		0: false, -1: false, -2: false, -13: false, 14: false, 15: false, 16: false, 17: false, 255: false, 256: false, 257: false, 1<<32 + 1: false,
		1<<62 + 1: false, math.MaxInt: false, math.MinInt: false, math.MinInt + 1: false,
	} {
		if got := op.Commit(kind); got != want {
			t.Errorf("%d: %v", kind, got)
		}
	}
}

// namesInRow are names, each one less than the next one.
func namesInRow() []api.Ident {
	l := []api.Ident{}
	for _, by := range []int{math.MinInt, -13, -1, 0, 1, 2, 9, 10, 11, 12, 13, 1 << 32, math.MaxInt} {
		for _, seq := range []int{math.MinInt, -1, 0, 1, 2, 5, 9, 10, most, 1 << 32, 1<<32 + 1, math.MaxInt} {
			for _, sum := range []uint64{0, 1, 9, 10, p - 1, p, 1<<63 - 1, 1 << 63, math.MaxUint64} {
				l = append(l, api.Ident{By: by, Seq: seq, Sum: sum})
			}
		}
	}
	return l
}

// P11.1, P11.6: names are told apart by By, then Seq, then Sum; of any two unlike ones just one is less, none than itself.
func TestLess(t *testing.T) {
	l := namesInRow()
	for i, a := range l {
		for k, b := range l {
			if got := op.Less(a, b); got != (i < k) {
				t.Errorf("%v less than %v: %v", a, b, got)
			}
		}
	}
	for _, x := range [][2]api.Ident{
		{{By: 1, Seq: 5, Sum: 9}, {By: 2, Seq: 1, Sum: 1}}, {{By: 1, Seq: 5, Sum: 9}, {By: 1, Seq: 5, Sum: 10}}, // the chapter's examples
		{{By: 1, Seq: 5, Sum: 9}, {By: 1, Seq: 6, Sum: 1}}, {{By: 9, Seq: 1, Sum: 1}, {By: 10, Seq: 1, Sum: 1}}, {{By: 1, Seq: 9, Sum: 1}, {By: 1, Seq: 10, Sum: 1}},
		{{By: 1, Seq: 1, Sum: math.MaxUint64}, {By: 1, Seq: 2, Sum: 0}}, {{By: 1, Seq: math.MaxInt, Sum: 5}, {By: 2, Seq: math.MinInt, Sum: 5}},
	} {
		if !op.Less(x[0], x[1]) || op.Less(x[1], x[0]) || op.Less(x[0], x[0]) || op.Less(x[1], x[1]) {
			t.Errorf("%v and %v", x[0], x[1])
		}
	}
}

// P11.6: of three names it carries on.
func TestLessCarriesOn(t *testing.T) {
	l := []api.Ident{}
	for _, id := range namesInRow() {
		if slices.Contains([]int{math.MinInt, 1, 2, math.MaxInt}, id.By) && slices.Contains([]int{0, 5, 9, math.MaxInt}, id.Seq) && slices.Contains([]uint64{1, 10, math.MaxUint64}, id.Sum) {
			l = append(l, id)
		}
	}
	for _, a := range l {
		for _, b := range l {
			if one, other := op.Less(a, b), op.Less(b, a); one && other || (one || other) != (a != b) {
				t.Errorf("%v and %v: %v, %v", a, b, one, other)
			}
			for _, c := range l {
				if op.Less(a, b) && op.Less(b, c) && !op.Less(a, c) {
					t.Errorf("%v, %v, %v", a, b, c)
				}
			}
		}
	}
}

// P11.3: a name is By, Seq, and the sum of the bytes; P11.5: the signature does not count for it.
func TestID(t *testing.T) {
	for _, o := range all() {
		want := api.Ident{By: o.By, Seq: o.Seq, Sum: hash.Bytes("op", content(o))}
		for _, sig := range []api.Sig{o.Sig, {}, {R: 1}, {S: 1}, {R: p, S: math.MaxUint64}} {
			o.Sig = sig
			if got := op.ID(o); got != want {
				t.Errorf("%.100v: %v, not %v", o, got, want)
			}
		}
	}
	for _, o := range few() {
		id := op.ID(o)
		for _, turn := range turns(o) {
			other := copied(o)
			turn.do(&other)
			if got := op.ID(other); got == id || got.Sum == id.Sum {
				t.Errorf("%s does not tell: %v", turn.name, got)
			}
		}
	}
}

// secrets are those at both ends, and some whose public keys do not come round soon.
func secrets() []uint64 { return []uint64{1, 2, 5, 37, 1234567890123456789, p - 3, p - 2} }

// P11.4: what is signed has chapter 8's signature of the bytes, whatever Sig it had, and is all else that it was.
func TestSign(t *testing.T) {
	for i, o := range all() {
		secret := secrets()[i%len(secrets())]
		want := copied(o)
		want.Sig = sign.Sign(secret, content(o))
		if got := op.Sign(secret, o); !equal(got, want) {
			t.Errorf("%.100v by %d: %.100v, not %.100v", o, secret, got, want)
		}
	}
	for _, secret := range secrets() {
		for _, o := range few() {
			want := sign.Sign(secret, content(o))
			once := op.Sign(secret, o)
			if again := op.Sign(secret, once); once.Sig != want || !equal(once, again) {
				t.Errorf("%.100v by %d: %v, then %v, not %v", o, secret, once.Sig, again.Sig, want)
			}
		}
	}
	for _, x := range examples() {
		if x.secret > 0 && op.Sign(x.secret, x.o).Sig != x.sig {
			t.Errorf("%v by %d: %v, not %v", x.o, x.secret, op.Sign(x.secret, x.o).Sig, x.sig)
		}
	}
}

// verifies holds Verify to what it has to tell.
func verifies(t *testing.T, what string, c api.Card, o api.Op, want bool) {
	t.Helper()
	if got := op.Verify(c, o); got != want {
		t.Errorf("%s: %v of %.100v: %v", what, c, o, got)
	}
}

// P11.4, P11.6: what a card's secret signed is that card's device's.
func TestVerify(t *testing.T) {
	for i, o := range all() {
		secret := secrets()[i%len(secrets())]
		c := api.Card{Device: o.By, Sign: sign.Pub(secret)}
		verifies(t, "signed", c, op.Sign(secret, o), true)
		signed := op.Sign(secret, o)
		for _, device := range []int{o.By + 1, o.By - 1, -o.By - 5, o.By ^ 1<<40} {
			verifies(t, "another device's", api.Card{Device: device, Sign: c.Sign}, signed, false)
		}
		c.Member, c.Lead, c.Keep = 5, 6, 7
		verifies(t, "what else is on the card", c, signed, true)
	}
	for _, x := range examples()[1:] {
		x.o.Sig = x.sig
		verifies(t, "worked out elsewhere", api.Card{Device: x.o.By, Sign: sign.Pub(x.secret)}, x.o, true)
		verifies(t, "another Sign", api.Card{Device: x.o.By, Sign: sign.Pub(x.secret + 7)}, x.o, false)
	}
}

// P11.4: another Sign, or another Sig, is not right.
func TestVerifyOther(t *testing.T) {
	for _, secret := range secrets() {
		for _, o := range few() {
			signed, c := op.Sign(secret, o), api.Card{Device: o.By, Lead: sign.Pub(secret), Keep: sign.Pub(secret), Sign: sign.Pub(secret)}
			for _, key := range []uint64{0, 1, c.Sign + 1, c.Sign - 1, c.Sign + p, sign.Pub(secret%1000 + 77), secret + p, p, math.MaxUint64} {
				verifies(t, "another Sign", api.Card{Device: c.Device, Lead: c.Lead, Keep: c.Keep, Sign: key}, signed, false)
			}
			r, s := signed.Sig.R, signed.Sig.S
			for _, sig := range []api.Sig{{}, {R: r}, {S: s}, {R: r + 1, S: s}, {R: r - 1, S: s}, {R: r, S: s + 1}, {R: r, S: s ^ 1}, {R: s, S: r}, {R: r + p, S: s}, {R: r, S: s + p - 1}, {R: p, S: s}} {
				other := signed
				other.Sig = sig
				verifies(t, "another Sig", c, other, false)
			}
			verifies(t, "another one's", c, op.Sign(secret%1000+77, o), false)
		}
	}
}

// P11.4, P11.6: of an operation of which any one field is another one the signature is not right.
func TestVerifyTurned(t *testing.T) {
	for i, o := range few() {
		secret := secrets()[i%len(secrets())]
		signed := op.Sign(secret, o)
		for _, turn := range turns(o) {
			other := copied(signed)
			turn.do(&other)
			verifies(t, turn.name, api.Card{Device: o.By, Sign: sign.Pub(secret)}, other, false)
			verifies(t, turn.name, api.Card{Device: other.By, Sign: sign.Pub(secret)}, other, false)
		}
	}
}

// same holds Same to what it has to tell, both ways round.
func same(t *testing.T, what string, a, b api.Op, want bool) {
	t.Helper()
	if one, other := op.Same(a, b), op.Same(b, a); one != want || other != want {
		t.Errorf("%s: %v, %v: %.100v and %.100v", what, one, other, a, b)
	}
	if want && (op.ID(a) != op.ID(b) || !bytes.Equal(op.Put(a), op.Put(b))) {
		t.Errorf("%s: two names, or two Puts: %.100v and %.100v", what, a, b)
	}
}

// P11.4, P11.5: the same are the same, in other memory; Same ones have one name and one Put.
func TestSame(t *testing.T) {
	for _, o := range all() {
		same(t, "itself", o, o, true)
		same(t, "its copy", o, copied(o), true)
		got, _ := op.Get(op.Put(o))
		same(t, "what is got of what is put", o, got, true)
	}
	empty := api.Op{Past: []api.Ident{}, Path: []api.Node{}, Body: []byte{}, Refs: []uint64{}, Guards: []int{}, Boxes: []api.Box{}, Hist: []api.Sealed{}}
	same(t, "empty lists and none", empty, api.Op{}, true)
	a, b := api.Op{Path: make([]api.Node, 2), Hist: make([]api.Sealed, 2)}, api.Op{Path: make([]api.Node, 2), Hist: make([]api.Sealed, 2)}
	a.Path[1].Boxes, a.Hist[1].Body = []api.Box{}, []byte{}
	same(t, "empty lists in lists", a, b, true)
	c, d := full(3), full(3)
	c.Refs, d.Refs = append(c.Refs, 5)[:3], append(d.Refs, 6)[:3]
	same(t, "other spare room", c, d, true)
}

// P11.4: those of which any one field, or item, or length is another one are not the same.
func TestNotSame(t *testing.T) {
	for _, o := range few() {
		for _, turn := range turns(o) {
			other := copied(o)
			turn.do(&other)
			same(t, turn.name, o, other, false)
		}
		for _, sig := range []api.Sig{{R: o.Sig.R + 1, S: o.Sig.S}, {R: o.Sig.R, S: o.Sig.S + 1}, {R: o.Sig.R ^ 1<<63, S: o.Sig.S}, {R: o.Sig.R, S: o.Sig.S ^ 1<<63}} {
			other := copied(o)
			other.Sig = sig
			same(t, "another Sig", o, other, false)
		}
	}
	l := all()
	for i, a := range l {
		for _, b := range []api.Op{l[(i+1)%len(l)], l[(i+7)%len(l)], l[(i+31)%len(l)]} {
			same(t, "two of all", a, b, equal(a, b))
		}
	}
}
