package op_test

import (
	"bytes"
	"math"
	"math/rand"
	"slices"
	"strconv"
	"testing"

	"huddle/api"
	"huddle/op"
)

// mark is where a number stands in bytes, and what it is: a number with a sign, one without, how many items follow, or how many bytes.
type mark struct {
	start, end int
	what       string
}

const (
	signedNumber = "a number"
	unsigned     = "a number without a sign"
	howMany      = "how many"
	howLong      = "how long"
)

// writer writes an operation by the chapter's row of fields.
type writer struct {
	b     []byte
	marks []mark
}

// sevens are a number's bytes, by division.
func sevens(n uint64) []byte {
	if n < 128 {
		return []byte{byte(n)}
	}
	return append([]byte{byte(n%128 + 128)}, sevens(n/128)...)
}

// doubled is a number's double; of one below 0 that of its distance from -1, and 1.
func doubled(n int) uint64 {
	if n < 0 {
		return 2*uint64(-1-n) + 1
	}
	return 2 * uint64(n)
}

func (w *writer) put(what string, n uint64) {
	start := len(w.b)
	w.b = append(w.b, sevens(n)...)
	w.marks = append(w.marks, mark{start, len(w.b), what})
}

func (w *writer) ints(l ...int) {
	for _, n := range l {
		w.put(signedNumber, doubled(n))
	}
}

func (w *writer) words(l ...uint64) {
	for _, n := range l {
		w.put(unsigned, n)
	}
}

func (w *writer) many(n int) { w.put(howMany, doubled(n)) }

func (w *writer) name(id api.Ident) {
	w.ints(id.By, id.Seq)
	w.words(id.Sum)
}

func (w *writer) text(b []byte) {
	w.put(howLong, doubled(len(b)))
	w.b = append(w.b, b...)
}

func (w *writer) boxes(l []api.Box) {
	w.many(len(l))
	for _, b := range l {
		w.words(b.To, b.Eph, b.Body, b.Tag)
	}
}

func (w *writer) op(o api.Op) {
	w.ints(o.By, o.Seq, o.Kind, o.At)
	w.many(len(o.Past))
	for _, id := range o.Past {
		w.name(id)
	}
	w.ints(o.Device, o.Old, o.Member, o.Role)
	w.many(len(o.Path))
	for _, n := range o.Path {
		w.words(n.Pub)
		w.boxes(n.Boxes)
	}
	w.name(o.Epoch)
	w.ints(o.N)
	w.text(o.Body)
	w.many(len(o.Refs))
	w.words(o.Refs...)
	w.name(o.Of)
	w.many(len(o.Guards))
	w.ints(o.Guards...)
	w.ints(o.Need, o.Wait)
	w.boxes(o.Boxes)
	w.words(o.Pub)
	w.many(len(o.Hist))
	for _, s := range o.Hist {
		w.name(s.Of)
		w.text(s.Body)
	}
}

// content are an operation's bytes.
func content(o api.Op) []byte {
	w := &writer{}
	w.op(o)
	return w.b
}

// written are those, and its Sig's behind; and where its numbers stand.
func written(o api.Op) ([]byte, []mark) {
	w := &writer{}
	w.op(o)
	w.words(o.Sig.R, o.Sig.S)
	return w.b, w.marks
}

// extreme has the same number everywhere, and n of everything.
func extreme(number int, word uint64, n int) api.Op {
	id, box := api.Ident{By: number, Seq: number, Sum: word}, api.Box{To: word, Eph: word, Body: word, Tag: word}
	all := slices.Repeat([]api.Box{box}, n)
	o := api.Op{
		By: number, Seq: number, Kind: number, At: number, Past: slices.Repeat([]api.Ident{id}, n), Device: number, Old: number, Member: number, Role: number,
		Epoch: id, N: number, Body: slices.Repeat([]byte{byte(number)}, n), Refs: slices.Repeat([]uint64{word}, n), Of: id, Guards: slices.Repeat([]int{number}, n),
		Need: number, Wait: number, Boxes: all, Pub: word, Sig: api.Sig{R: word, S: word},
	}
	for range n {
		o.Path = append(o.Path, api.Node{Pub: word, Boxes: slices.Clone(all)})
		o.Hist = append(o.Hist, api.Sealed{Of: id, Body: bytes.Clone(o.Body)})
	}
	return o
}

// all are operations of each kind with lists of many lengths, and others that may not be: with all fields, with none, with the least and the greatest numbers, and each of those with one thing turned.
func all() []api.Op {
	l := []api.Op{{}, full(0), full(1), full(3), full(70)}
	for _, s := range shapes() {
		for _, n := range sizes() {
			o := s.op(n)
			o.Sig = api.Sig{R: uint64(n) << 50, S: p - uint64(n)}
			l = append(l, o)
		}
	}
	for _, number := range []int{0, 1, -1, 63, 64, -64, -65, most, 1 << 40, math.MaxInt, math.MinInt} {
		for _, word := range []uint64{0, 1, 127, 128, p - 1, p, 1 << 63, math.MaxUint64} {
			l = append(l, extreme(number, word, 0), extreme(number, word, 1), extreme(number, word, 3))
		}
	}
	for _, o := range []api.Op{{}, full(3)} {
		for _, turn := range turns(o) {
			other := copied(o)
			turn.do(&other)
			l = append(l, other)
		}
	}
	return l
}

// P11.3: the bytes are those that the chapter's row of fields makes, and Sig's behind them.
func TestPut(t *testing.T) {
	for _, o := range all() {
		if want, _ := written(o); !bytes.Equal(op.Put(o), want) {
			t.Errorf("%.60v: %v, not %v", o, op.Put(o), want)
		}
	}
	o := full(2)
	o.Body = text(100000)
	o.Past, o.Guards = names(5000), rising[int](5000)
	if want, _ := written(o); !bytes.Equal(op.Put(o), want) {
		t.Error("the bytes of a great one")
	}
}

// example is an operation of which bytes, name and signature were worked out elsewhere.
type example struct {
	o      api.Op
	bytes  []byte
	sum    uint64
	secret uint64
	sig    api.Sig
}

func examples() []example {
	return []example{
		{api.Op{}, make([]byte, 25), 328933480686393861, 0, api.Sig{}},
		{
			api.Op{By: 1, Seq: 1, Kind: api.Create, Path: []api.Node{{Pub: 37}}, Need: 2},
			[]byte{2, 2, 2, 0, 0, 0, 0, 0, 0, 2, 37, 0, 0, 0, 0, 0, 0, 0, 0, 0, 0, 0, 4, 0, 0, 0, 0},
			322715849572568412, 5, api.Sig{R: 635002367345411651, S: 56261313668776003},
		},
		{
			api.Op{
				By: 2, Seq: 3, Kind: api.Message, At: 100, Past: []api.Ident{{By: 1, Seq: 1, Sum: 5}, {By: 2, Seq: 2, Sum: 200}},
				Epoch: api.Ident{By: 1, Seq: 1, Sum: 5}, N: 1, Body: []byte("ab"), Refs: []uint64{7, p - 1},
			},
			[]byte{
				4, 6, 12, 200, 1, 4, 2, 2, 5, 4, 4, 200, 1, 0, 0, 0, 0, 0, 2, 2, 5, 2, 4, 97, 98, 4, 7, 254, 255, 255, 255, 255, 255, 255, 255, 31,
				0, 0, 0, 0, 0, 0, 0, 0, 0,
			},
			271772285187129190, 5, api.Sig{R: 2050862074766527786, S: 1987393238293988164},
		},
		{
			api.Op{
				By: 12, Seq: most, Kind: api.Guard, Past: []api.Ident{{By: 3, Seq: 64, Sum: p - 1}}, Guards: []int{1, 12}, Need: 2, Wait: 5,
				Boxes: []api.Box{{To: 1, Eph: 2, Body: 3, Tag: 4}, {To: 5, Eph: 6, Body: 0, Tag: p - 1}}, Pub: 1369,
			},
			[]byte{
				24, 254, 255, 255, 255, 15, 18, 0, 2, 6, 128, 1, 254, 255, 255, 255, 255, 255, 255, 255, 31, 0, 0, 0, 0, 0, 0, 0, 0, 0, 0, 0, 0, 0, 0,
				4, 2, 24, 4, 10, 4, 1, 2, 3, 4, 5, 6, 0, 254, 255, 255, 255, 255, 255, 255, 255, 31, 217, 10, 0,
			},
			1281942879910193301, p - 2, api.Sig{R: 1128297208957803246, S: 302046097862769908},
		},
		{
			api.Op{
				By: -1, Seq: math.MinInt, Kind: math.MaxInt, At: -65, Device: 9, Old: -3, Member: 7, Role: -2, Of: api.Ident{By: 4, Seq: 5, Sum: 6},
				Path: []api.Node{{Pub: math.MaxUint64, Boxes: []api.Box{{To: 0, Eph: 1, Body: 2, Tag: 3}}}, {}},
				Hist: []api.Sealed{{Of: api.Ident{By: -1, Seq: 0, Sum: 1}, Body: []byte("xyz")}},
			},
			[]byte{
				1, 255, 255, 255, 255, 255, 255, 255, 255, 255, 1, 254, 255, 255, 255, 255, 255, 255, 255, 255, 1, 129, 1, 0, 18, 5, 14, 3,
				4, 255, 255, 255, 255, 255, 255, 255, 255, 255, 1, 2, 0, 1, 2, 3, 0, 0, 0, 0, 0, 0, 0, 0, 8, 10, 6, 0, 0, 0, 0, 0,
				2, 1, 0, 1, 6, 120, 121, 122,
			},
			1257134034008151862, 6, api.Sig{R: 1116245067683181729, S: 878456615891139549},
		},
	}
}

// P11.3: bytes and names that were worked out elsewhere.
func TestPutWrittenOut(t *testing.T) {
	for _, x := range examples() {
		if got, want := op.Put(x.o), append(slices.Clone(x.bytes), 0, 0); !bytes.Equal(got, want) {
			t.Errorf("%v: %v, not %v", x.o, got, want)
		}
		signed := x.o
		signed.Sig = api.Sig{R: 5, S: 200}
		if got, want := op.Put(signed), append(slices.Clone(x.bytes), 5, 200, 1); !bytes.Equal(got, want) {
			t.Errorf("%v: %v, not %v", signed, got, want)
		}
		if got, want := op.ID(x.o), (api.Ident{By: x.o.By, Seq: x.o.Seq, Sum: x.sum}); got != want {
			t.Errorf("%v: %v, not %v", x.o, got, want)
		}
	}
}

// gets holds Get to an operation.
func gets(t *testing.T, b []byte, want api.Op) {
	t.Helper()
	if got, e := op.Get(b); e != api.OK || !equal(got, want) {
		t.Errorf("%.80v: %.200v, %d; not %.200v", b, got, e, want)
	}
}

// refuses holds Get to an error, and to nothing beside it.
func refuses(t *testing.T, what string, b []byte, want api.Errno) {
	t.Helper()
	if got, e := op.Get(b); e != want || !equal(got, api.Op{}) {
		t.Errorf("%s: %.80v: %.200v, %d; not %d", what, b, got, e, want)
	}
}

// P11.3, P11.5: what is put is got, what may be and what may not.
func TestGet(t *testing.T) {
	for _, o := range all() {
		gets(t, op.Put(o), o)
		want, _ := written(o)
		gets(t, want, o)
	}
	for _, n := range []int{201, 999, 1001, 5000, 1 << 20} { // of how many bytes a text has 1000 may be more
		o := full(2)
		o.Body, o.Hist[1].Body = text(n), text(n)
		gets(t, op.Put(o), o)
	}
}

// lists make an operation whose one list has n items.
func lists() map[string]func(n int) api.Op {
	return map[string]func(n int) api.Op{
		"Past":           func(n int) api.Op { return api.Op{Past: names(n)} },
		"Path":           func(n int) api.Op { return api.Op{Path: nodes(n, 1)} },
		"a node's Boxes": func(n int) api.Op { return api.Op{Path: []api.Node{{}, {Pub: 5, Boxes: boxes(n, 7)}, {}}} },
		"Refs":           func(n int) api.Op { return api.Op{Refs: rising[uint64](n)} },
		"Guards":         func(n int) api.Op { return api.Op{Guards: rising[int](n)} },
		"Boxes":          func(n int) api.Op { return api.Op{Boxes: boxes(n, 7)} },
		"Hist":           func(n int) api.Op { return api.Op{Hist: sealed(n, 2)} },
	}
}

// P11.3, P11.5: of each list up to 1000 are got, and no more.
func TestMany(t *testing.T) {
	for name, list := range lists() {
		for _, n := range []int{0, 1, 2, 63, 64, 999, 1000} {
			o := list(n)
			gets(t, op.Put(o), o)
		}
		for _, n := range []int{1001, 1002, 1024, 2000, 8192} {
			o := list(n)
			b, _ := written(o)
			if !bytes.Equal(op.Put(o), b) {
				t.Errorf("%s: the bytes of %d", name, n)
			}
			refuses(t, name+": "+strconv.Itoa(n), b, api.ErrForm)
		}
	}
	o := full(0)
	for _, list := range []func(o *api.Op){
		func(o *api.Op) { o.Past = names(1000) }, func(o *api.Op) { o.Path = nodes(1000, 40) }, func(o *api.Op) { o.Path[999].Boxes = boxes(1000, 9) },
		func(o *api.Op) { o.Refs = rising[uint64](1000) }, func(o *api.Op) { o.Guards = rising[int](1000) },
		func(o *api.Op) { o.Boxes = boxes(1000, 9) }, func(o *api.Op) { o.Hist = sealed(1000, 1000) },
	} {
		list(&o)
		gets(t, op.Put(o), o)
	}
}

// P11.3: bytes that end too early, at each place.
func TestTooShort(t *testing.T) {
	for _, o := range few() {
		b := op.Put(o)
		for n := range b {
			refuses(t, "too short", b[:n], api.ErrShort)
		}
	}
	refuses(t, "nothing", nil, api.ErrShort)
}

// few are an operation of each shape with some of everything, and others with all fields, and with none.
func few() []api.Op {
	l := []api.Op{{}, full(2), full(5), extreme(math.MinInt, math.MaxUint64, 2), extreme(math.MaxInt, p, 1), extreme(-1, 128, 2)}
	for _, s := range shapes() {
		o := s.op(3)
		o.Sig = api.Sig{R: p - 1, S: 300}
		l = append(l, o)
	}
	return l
}

// P11.3: bytes that are left over.
func TestTooLong(t *testing.T) {
	for _, o := range few() {
		b := op.Put(o)
		for _, more := range [][]byte{{0}, {1}, {2}, {127}, {128}, {255}, {128, 0}, {0, 0, 0}, b, make([]byte, 100)} {
			refuses(t, "left over", slices.Concat(b, more), api.ErrLong)
		}
	}
}

// wrong are bytes of a number that may not be, whatever stands behind them.
func wrong(what string) [][]byte {
	nines := slices.Repeat([]byte{255}, 9)
	l := [][]byte{
		{128, 0}, {255, 0}, {255, 255, 0}, append(slices.Repeat([]byte{128}, 9), 0), append(slices.Clone(nines), 0),
		append(slices.Clone(nines), 2), append(slices.Clone(nines), 127), append(slices.Clone(nines), 128), append(slices.Clone(nines), 129, 0), slices.Repeat([]byte{255}, 30),
	}
	switch what {
	case howMany:
		for _, n := range []int{-1, -2, -64, -65, -1000, -1001, 1001, 1002, 2000, most, 1 << 32, 1<<32 + 1, math.MaxInt, math.MinInt} {
			l = append(l, sevens(doubled(n)))
		}
	case howLong:
		for _, n := range []int{-1, -2, -64, -65, math.MinInt} {
			l = append(l, sevens(doubled(n)))
		}
	}
	return l
}

// P11.3: numbers that are written otherwise than they may be, how many there are of what can not be, and texts of less than none: at each place.
func TestForm(t *testing.T) {
	for _, o := range few() {
		b, marks := written(o)
		for _, m := range marks {
			for _, w := range wrong(m.what) {
				ahead, behind := b[:m.start], b[m.end:]
				refuses(t, m.what+", behind which all stands", slices.Concat(ahead, w, behind), api.ErrForm)
				refuses(t, m.what+", behind which nothing stands", slices.Concat(ahead, w), api.ErrForm)
				refuses(t, m.what+", behind which too much stands", slices.Concat(ahead, w, behind, b), api.ErrForm)
			}
			// The same number with noughts ahead of it, so to say.
			long := slices.Clone(b[m.start:m.end])
			long[len(long)-1] |= 128
			refuses(t, m.what+" in more bytes", slices.Concat(b[:m.start], long, []byte{0}, b[m.end:]), api.ErrForm)
			if m.what == howLong {
				for _, n := range []int{len(b), 5000, most, 1 << 40, math.MaxInt} {
					refuses(t, "a text that is too short", slices.Concat(b[:m.start], sevens(doubled(n)), b[m.end:]), api.ErrShort)
				}
			}
			if m.what == howMany {
				refuses(t, "1000, of which there is none", slices.Concat(b[:m.start], sevens(doubled(1000))), api.ErrShort)
			}
		}
	}
}

// P11.3: of two things that are wrong the first one in the bytes is told.
func TestFirstWrong(t *testing.T) {
	b, marks := written(full(2))
	for i, m := range marks {
		if m.what != howMany {
			continue
		}
		none := slices.Concat(b[:m.start], sevens(doubled(-1)), b[m.end:])
		refuses(t, "less than none, then too short", none[:len(none)-3], api.ErrForm)
		refuses(t, "too short ahead of less than none", none[:m.start], api.ErrShort)
		if i > 0 {
			k := marks[i-1]
			refuses(t, "two wrong ones", slices.Concat(b[:k.start], []byte{128, 0}, b[k.end:m.start], sevens(doubled(1001))), api.ErrForm)
		}
	}
}

// P11.5: bytes that are got are put as the same bytes: so no two rows of bytes are the same operation.
func TestOneRowOfBytes(t *testing.T) {
	chance := rand.New(rand.NewSource(11))
	got := 0
	asks := func(b []byte) {
		o, e := op.Get(b)
		if e != api.OK {
			refuses(t, "refused again", b, e)
			return
		}
		got++
		if again := op.Put(o); !bytes.Equal(again, b) {
			t.Errorf("%v is put as %v", b, again)
		}
	}
	for _, o := range few() {
		b, _ := written(o)
		for at := range b {
			for _, to := range []byte{0, 1, 2, 3, 127, 128, 129, 255, b[at] ^ 1, b[at] ^ 128, b[at] + 2, b[at] - 2} {
				other := slices.Clone(b)
				other[at] = to
				asks(other)
			}
			asks(slices.Delete(slices.Clone(b), at, at+1))
			asks(slices.Insert(slices.Clone(b), at, 0))
			asks(slices.Insert(slices.Clone(b), at, 128))
		}
	}
	for range 30000 {
		b := make([]byte, 27+chance.Intn(9))
		for i := range b {
			if chance.Intn(4) == 0 {
				b[i] = []byte{1, 2, 4, 127, 128, 129, 255, byte(chance.Intn(256))}[chance.Intn(8)]
			}
		}
		asks(b)
	}
	if got < 2000 {
		t.Errorf("only %d were got", got)
	}
}

// P11.5: unlike operations have unlike bytes.
func TestUnlikeBytes(t *testing.T) {
	seen := map[string]api.Op{}
	for _, o := range all() {
		b := string(op.Put(o))
		if was, ok := seen[b]; ok && !equal(o, was) {
			t.Errorf("%.100v and %.100v have the same bytes", o, was)
		}
		seen[b] = o
	}
	for _, o := range few() {
		b := op.Put(o)
		for _, turn := range turns(o) {
			other := copied(o)
			turn.do(&other)
			if bytes.Equal(op.Put(other), b) {
				t.Errorf("%s does not tell", turn.name)
			}
		}
	}
}
