package pack_test

import (
	"bytes"
	"math"
	"math/big"
	"math/rand"
	"strings"
	"testing"

	"huddle/api"
	"huddle/pack"
)

// ints are numbers about 0, at the edges of each byte's seven bits and of other widths, and the least and the greatest.
func ints() []int {
	l := []int{0, math.MaxInt, math.MaxInt - 1, math.MinInt, math.MinInt + 1, api.P, 200, -200}
	for k := range 63 {
		for about := -2; about <= 2; about++ {
			l = append(l, 1<<k+about, -1<<k+about)
		}
	}
	return l
}

// nums are numbers without a sign: small ones, those at the edges of each byte's seven bits and of other widths, and the greatest.
func nums() []uint64 {
	l := []uint64{0, api.P, api.P - 1, 200, math.MaxUint64, math.MaxUint64 - 1}
	for k := range 64 {
		for back := range uint64(5) {
			l = append(l, 1<<k+2-back)
		}
	}
	return l
}

// texts are empty, short and long ones, with bytes of all kinds.
func texts() []string {
	all := ""
	for b := range 256 {
		all += string([]byte{byte(b)})
	}
	l := []string{"", "a", "ab", "\x00", "\x80", "\xff\xff", "\x00\x00\x00", "gr\u00fcn \u4e16", all}
	for _, n := range []int{62, 63, 64, 65, api.MaxText, 8191, 8192, 8193, 100000} {
		l = append(l, strings.Repeat("x", n))
	}
	return l
}

// idents are names of which each part is at some edge.
func idents() []api.Ident {
	l := []api.Ident{{}, {By: 12, Seq: 200, Sum: api.P - 1}, {By: math.MinInt, Seq: math.MaxInt, Sum: math.MaxUint64}}
	for _, n := range []int{1, -1, 63, 64, -64, -65, math.MaxInt, math.MinInt} {
		l = append(l, api.Ident{By: n}, api.Ident{Seq: n}, api.Ident{By: -n, Seq: n, Sum: 5})
	}
	for _, n := range []uint64{1, 127, 128, 1 << 63, math.MaxUint64} {
		l = append(l, api.Ident{Sum: n}, api.Ident{By: 1, Seq: 1, Sum: n})
	}
	return l
}

// things are all of those, and both truths.
func things() []any {
	l := []any{false, true}
	for _, n := range ints() {
		l = append(l, n)
	}
	for _, n := range nums() {
		l = append(l, n)
	}
	for _, s := range texts() {
		l = append(l, s)
	}
	for _, id := range idents() {
		l = append(l, id)
	}
	return l
}

// write writes a thing as what it is.
func write(o *pack.Out, thing any) {
	switch x := thing.(type) {
	case int:
		o.Int(x)
	case string:
		o.Text(x)
	case bool:
		o.Bool(x)
	case uint64:
		o.Num(x)
	case api.Ident:
		o.Ident(x)
	}
}

// reread reads a thing of the kind of another one.
func reread(i *pack.In, like any) any {
	switch like.(type) {
	case int:
		return i.Int()
	case string:
		return i.Text()
	case bool:
		return i.Bool()
	case uint64:
		return i.Num()
	}
	return i.Ident()
}

// written are the bytes of things, one behind the other.
func written(things ...any) []byte {
	var o pack.Out
	for _, thing := range things {
		write(&o, thing)
	}
	return o.Bytes()
}

// sevens are a number's bytes, by division.
func sevens(n *big.Int) []byte {
	rest, seven := new(big.Int).DivMod(n, big.NewInt(128), new(big.Int))
	if rest.Sign() == 0 {
		return []byte{byte(seven.Int64())}
	}
	return append([]byte{byte(seven.Int64() + 128)}, sevens(rest)...)
}

// doubled is a number's double, or that of its distance from -1, and 1.
func doubled(n int) *big.Int {
	b := big.NewInt(int64(n))
	if n >= 0 {
		return b.Add(b, b)
	}
	b.Sub(big.NewInt(-1), b)
	return b.Add(b.Add(b, b), big.NewInt(1))
}

// want are the bytes that a thing has to have.
func want(thing any) []byte {
	switch x := thing.(type) {
	case int:
		return sevens(doubled(x))
	case uint64:
		return sevens(new(big.Int).SetUint64(x))
	case string:
		return append(want(len(x)), x...)
	case api.Ident:
		return append(append(want(x.By), want(x.Seq)...), want(x.Sum)...)
	case bool:
		if x {
			return want(1)
		}
	}
	return want(0)
}

// P4.1: each kind, by itself.
func TestWritten(t *testing.T) {
	for _, thing := range things() {
		if got, want := written(thing), want(thing); !bytes.Equal(got, want) {
			t.Errorf("%T %.40v: %.40v, not %.40v", thing, thing, got, want)
		}
	}
}

// P4.1: what was worked out elsewhere.
func TestWrittenOut(t *testing.T) {
	for _, x := range []struct {
		thing any
		want  []byte
	}{
		{0, []byte{0}}, {1, []byte{2}}, {-1, []byte{1}}, {2, []byte{4}}, {-2, []byte{3}},
		{63, []byte{126}}, {64, []byte{128, 1}}, {-64, []byte{127}}, {-65, []byte{129, 1}},
		{8191, []byte{254, 127}}, {8192, []byte{128, 128, 1}}, {-8192, []byte{255, 127}}, {-8193, []byte{129, 128, 1}},
		{1<<31 - 1, []byte{254, 255, 255, 255, 15}}, {-1 << 31, []byte{255, 255, 255, 255, 15}},
		{1<<62 - 1, []byte{254, 255, 255, 255, 255, 255, 255, 255, 127}},
		{1 << 62, []byte{128, 128, 128, 128, 128, 128, 128, 128, 128, 1}},
		{-1 << 62, []byte{255, 255, 255, 255, 255, 255, 255, 255, 127}},
		{-1<<62 - 1, []byte{129, 128, 128, 128, 128, 128, 128, 128, 128, 1}},
		{math.MaxInt, []byte{254, 255, 255, 255, 255, 255, 255, 255, 255, 1}},
		{math.MinInt, []byte{255, 255, 255, 255, 255, 255, 255, 255, 255, 1}},
		{uint64(0), []byte{0}}, {uint64(127), []byte{127}}, {uint64(128), []byte{128, 1}}, {uint64(16384), []byte{128, 128, 1}},
		{uint64(1<<63 - 1), []byte{255, 255, 255, 255, 255, 255, 255, 255, 127}},
		{uint64(1 << 63), []byte{128, 128, 128, 128, 128, 128, 128, 128, 128, 1}},
		{uint64(math.MaxUint64), []byte{255, 255, 255, 255, 255, 255, 255, 255, 255, 1}},
		{false, []byte{0}}, {true, []byte{2}}, {"", []byte{0}}, {"a", []byte{2, 97}},
		{api.Ident{By: 12, Seq: 200, Sum: api.P - 1}, []byte{24, 144, 3, 254, 255, 255, 255, 255, 255, 255, 255, 31}},
		{api.Ident{By: -3, Sum: math.MaxUint64}, []byte{5, 0, 255, 255, 255, 255, 255, 255, 255, 255, 255, 1}},
	} {
		if got := written(x.thing); !bytes.Equal(got, x.want) {
			t.Errorf("%T %v: %v, not %v", x.thing, x.thing, got, x.want)
		}
	}
	if got := written(strings.Repeat("y", 300)); !bytes.Equal(got, append([]byte{216, 4}, strings.Repeat("y", 300)...)) {
		t.Errorf("a text of 300: %v", got)
	}
}

// P4.1: what is handed in stands behind what was written, and Bytes is all of it, as often as it is asked.
func TestBehindWhatWasWritten(t *testing.T) {
	var o pack.Out
	if got := o.Bytes(); len(got) != 0 {
		t.Errorf("of nothing: %v", got)
	}
	all := []byte{}
	for _, thing := range things() {
		write(&o, thing)
		all = append(all, want(thing)...)
		if !bytes.Equal(o.Bytes(), all) || !bytes.Equal(o.Bytes(), all) {
			t.Fatalf("behind %T %.40v it is not all that was written", thing, thing)
		}
	}
}

// P4.2, P4.4: each kind, read by itself; nothing is left.
func TestRead(t *testing.T) {
	for _, thing := range things() {
		i := pack.Open(want(thing))
		if got := reread(i, thing); got != thing {
			t.Errorf("%T %.40v: %.40v", thing, thing, got)
		}
		if i.Left() != 0 || i.Err() != api.OK || i.End() != api.OK {
			t.Errorf("%T %.40v: %d left, %v, at the end %v", thing, thing, i.Left(), i.Err(), i.End())
		}
	}
}

// mixed are n things of all kinds.
func mixed(r *rand.Rand, n int) []any {
	all, row := things(), make([]any, n)
	for k := range row {
		switch r.Intn(4) {
		case 0:
			row[k] = r.Int() >> r.Intn(64) * (1 - 2*r.Intn(2))
		case 1:
			row[k] = r.Uint64() >> r.Intn(64)
		default:
			row[k] = all[r.Intn(len(all))]
		}
	}
	return row
}

// P4.2, P4.3, P4.4: what is written is read in its row; Left tells what is to come, and End that something is.
func TestRow(t *testing.T) {
	r := rand.New(rand.NewSource(4))
	for n := range 60 {
		row := mixed(r, n)
		all := written(row...)
		i, left := pack.Open(all), len(all)
		for _, thing := range row {
			if i.Left() != left || i.Err() != api.OK || i.End() != api.ErrLong {
				t.Fatalf("%d left, not %d; %v, at the end %v", i.Left(), left, i.Err(), i.End())
			}
			if got := reread(i, thing); got != thing {
				t.Fatalf("%T %.40v: %.40v", thing, thing, got)
			}
			left -= len(want(thing))
		}
		if i.Left() != 0 || i.Err() != api.OK || i.End() != api.OK {
			t.Fatalf("%d left, %v, at the end %v", i.Left(), i.Err(), i.End())
		}
	}
}

// P4.2: Many reads what Int wrote, from 0 to as many as are allowed.
func TestMany(t *testing.T) {
	for _, most := range []int{0, 1, 2, 62, 63, 64, 65, api.MaxOps, 8191, 8192, 1<<31 - 2, 1<<31 - 1} {
		for _, n := range append(ints(), most-1, most, most+1) {
			b := append(want(n), 7)
			i, wanted, left, wrong := pack.Open(b), n, 1, api.OK
			if n < 0 || n > most {
				wanted, left, wrong = 0, len(b), api.ErrForm
			}
			if got := i.Many(most); got != wanted || i.Left() != left || i.Err() != wrong {
				t.Errorf("Many of %d at %d: %d, %d left, %v; not %d, %d, %v", most, n, got, i.Left(), i.Err(), wanted, left, wrong)
			}
		}
	}
}

// P4.4: what is written of two unlike things of a kind is unlike, and neither is the beginning of the other one.
func TestUnlike(t *testing.T) {
	all := things()
	l := make([][]byte, len(all))
	for k, thing := range all {
		l[k] = written(thing)
	}
	kind := func(thing any) string {
		switch thing.(type) {
		case int:
			return "number"
		case string:
			return "text"
		case bool:
			return "truth"
		case uint64:
			return "number without a sign"
		}
		return "name"
	}
	for a := range all {
		for b := range all {
			if kind(all[a]) == kind(all[b]) && bytes.HasPrefix(l[a], l[b]) != (all[a] == all[b]) {
				t.Errorf("%.40v and %.40v: %.40v and %.40v", all[a], all[b], l[a], l[b])
			}
		}
	}
}

// R4: what Bytes answered is new memory: neither is changed by the other one, its spare room neither.
func TestBytesChanged(t *testing.T) {
	for n := range 70 {
		var o pack.Out
		o.Text(strings.Repeat("x", n))
		all := want(strings.Repeat("x", n))
		first, second := o.Bytes(), o.Bytes()
		for k, l := range [][]byte{first, second} {
			clear(l[:cap(l)])
			_ = append(l, 1, 2, 3)
			if k == 0 && !bytes.Equal(second, all) {
				t.Errorf("the second one is changed: %v", second)
			}
		}
		o.Int(5)
		o.Text("ab")
		all = append(all, 10, 4, 97, 98)
		if got := o.Bytes(); !bytes.Equal(got, all) {
			t.Errorf("behind a change of what was answered: %v, not %v", got, all)
		}
		kept := o.Bytes()
		for range 40 {
			o.Num(math.MaxUint64)
		}
		if !bytes.Equal(kept, all) {
			t.Errorf("what was answered is changed: %v, not %v", kept, all)
		}
	}
}

// R4: bytes that were handed to Open are not kept: a change of them changes nothing, ahead of the first call and amid them.
func TestOpenedChanged(t *testing.T) {
	row := []any{"ab", 300, true, uint64(200), api.Ident{By: 1, Seq: 64, Sum: 128}, "cd"}
	for when := range row {
		b := written(row...)
		i := pack.Open(b)
		for k, thing := range row {
			if k == when {
				clear(b[:cap(b)])
			}
			if got := reread(i, thing); got != thing {
				t.Errorf("changed ahead of the call %d: %v, not %v", when, got, thing)
			}
		}
		if i.End() != api.OK {
			t.Errorf("changed ahead of the call %d: %v", when, i.End())
		}
	}
}

// R4: what is handed to Open is not changed, its spare room neither, and nothing is read there.
func TestOpened(t *testing.T) {
	all := bytes.Repeat([]byte{2}, 60)
	for n := range 40 {
		i := pack.Open(all[:n])
		for range n/5 + 2 {
			i.Int()
			i.Ident()
			i.Bool()
			i.Many(9)
		}
		// A name has three bytes here, so that one or two may be left ahead of one.
		if i.Left() > 2 || i.Err() != api.ErrShort {
			t.Errorf("of %d: %d left, %v", n, i.Left(), i.Err())
		}
		if !bytes.Equal(all, bytes.Repeat([]byte{2}, 60)) {
			t.Fatalf("what was handed in is changed: %v", all)
		}
	}
}

// Reads beside each other, and writes, are their own, also those of the same bytes.
func TestBesideEachOther(t *testing.T) {
	b := []byte{2, 4, 6}
	first, second := pack.Open(b), pack.Open(b)
	if x, y, z, again := first.Int(), first.Int(), second.Int(), first.Bool(); x != 1 || y != 2 || z != 1 || again {
		t.Errorf("%d, %d, %d, %v", x, y, z, again)
	}
	if first.Err() != api.ErrForm || second.Err() != api.OK || first.Left() != 1 || second.Left() != 2 {
		t.Errorf("%v and %v, %d and %d left", first.Err(), second.Err(), first.Left(), second.Left())
	}
	var o, p pack.Out
	o.Int(1)
	p.Int(2)
	o.Int(3)
	if !bytes.Equal(o.Bytes(), []byte{2, 6}) || !bytes.Equal(p.Bytes(), []byte{4}) {
		t.Errorf("%v and %v", o.Bytes(), p.Bytes())
	}
}

// The chapter's examples.
func TestExamples(t *testing.T) {
	for _, x := range []struct {
		thing any
		want  []byte
	}{{-2, []byte{3}}, {"ab", []byte{4, 97, 98}}, {true, []byte{2}}, {uint64(200), []byte{200, 1}}} {
		if got := written(x.thing); !bytes.Equal(got, x.want) {
			t.Errorf("%v: %v, not %v", x.thing, got, x.want)
		}
	}
}
