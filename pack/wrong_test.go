package pack_test

import (
	"bytes"
	"math"
	"math/big"
	"slices"
	"testing"

	"huddle/api"
	"huddle/pack"
)

// kind is a way of reading: the call, what it answers where nothing can be read, and what it has to answer.
type kind struct {
	name string
	read func(i *pack.In) any
	none any
	// has tells what stands ahead in bytes, how many of them that is, and what is wrong.
	has func(b []byte) (any, int, api.Errno)
}

// kinds are all ways of reading.
func kinds() []kind {
	l := []kind{
		{"Int", func(i *pack.In) any { return i.Int() }, 0, hasInt},
		{"Text", func(i *pack.In) any { return i.Text() }, "", hasText},
		{"Bool", func(i *pack.In) any { return i.Bool() }, false, hasBool},
		{"Num", func(i *pack.In) any { return i.Num() }, uint64(0), hasNum},
		{"Ident", func(i *pack.In) any { return i.Ident() }, api.Ident{}, hasIdent},
	}
	for _, most := range []int{0, 1, 2, 63, 64, 1<<31 - 1} {
		read := func(i *pack.In) any { return i.Many(most) }
		l = append(l, kind{"Many", read, 0, func(b []byte) (any, int, api.Errno) { return hasMany(b, most) }})
	}
	return l
}

func hasNum(b []byte) (any, int, api.Errno) {
	end := slices.IndexFunc(b, func(b byte) bool { return b < 128 })
	if len(b) > 9 && (end < 0 || end > 8) && b[9] != 1 {
		return uint64(0), 0, api.ErrForm
	}
	if end < 0 {
		return uint64(0), 0, api.ErrShort
	}
	if end > 0 && b[end] == 0 {
		return uint64(0), 0, api.ErrForm
	}
	sum := new(big.Int)
	for k := end; k >= 0; k-- {
		sum.Mul(sum, big.NewInt(128)).Add(sum, big.NewInt(int64(b[k]%128)))
	}
	return sum.Uint64(), end + 1, api.OK
}

func hasInt(b []byte) (any, int, api.Errno) {
	n, used, wrong := hasNum(b)
	half := new(big.Int).SetUint64(n.(uint64))
	odd := half.Bit(0)
	half.Rsh(half, 1)
	if odd == 1 {
		half.Sub(big.NewInt(-1), half)
	}
	return int(half.Int64()), used, wrong
}

func hasMany(b []byte, most int) (any, int, api.Errno) {
	n, used, wrong := hasInt(b)
	if n := n.(int); wrong == api.OK && (n < 0 || n > most) {
		return 0, 0, api.ErrForm
	}
	return n, used, wrong
}

func hasBool(b []byte) (any, int, api.Errno) {
	n, used, wrong := hasMany(b, 1)
	return n == 1, used, wrong
}

func hasText(b []byte) (any, int, api.Errno) {
	n, used, wrong := hasInt(b)
	size := n.(int)
	if wrong == api.OK && size < 0 {
		wrong = api.ErrForm
	}
	if wrong == api.OK && size > len(b)-used {
		wrong = api.ErrShort
	}
	if wrong != api.OK {
		return "", 0, wrong
	}
	return string(b[used : used+size]), used + size, api.OK
}

func hasIdent(b []byte) (any, int, api.Errno) {
	by, first, wrong := hasInt(b)
	if wrong != api.OK {
		return api.Ident{}, 0, wrong
	}
	seq, second, wrong := hasInt(b[first:])
	if wrong != api.OK {
		return api.Ident{}, 0, wrong
	}
	sum, third, wrong := hasNum(b[first+second:])
	if wrong != api.OK {
		return api.Ident{}, 0, wrong
	}
	return api.Ident{By: by.(int), Seq: seq.(int), Sum: sum.(uint64)}, first + second + third, api.OK
}

// end is what End has to tell.
func end(left int, wrong api.Errno) api.Errno {
	if wrong == api.OK && left > 0 {
		return api.ErrLong
	}
	return wrong
}

// check asks all ways of reading of some bytes, and whether what was read is, written again, the same bytes.
func check(t *testing.T, b []byte) {
	t.Helper()
	for _, k := range kinds() {
		i := pack.Open(b)
		if i.Left() != len(b) || i.Err() != api.OK || i.End() != end(len(b), api.OK) {
			t.Fatalf("%v, of which nothing is read: %d left, %v, at the end %v", b, i.Left(), i.Err(), i.End())
		}
		got := k.read(i)
		want, used, wrong := k.has(b)
		left := len(b) - used
		if got != want || i.Left() != left || i.Err() != wrong || i.End() != end(left, wrong) {
			t.Fatalf("%s of %v: %v, %d left, %v, at the end %v; not %v, %d, %v", k.name, b, got, i.Left(), i.Err(), i.End(), want, left, wrong)
		}
		if wrong == api.OK && !bytes.Equal(written(got), b[:used]) {
			t.Fatalf("%s of %v: %v, that is written as %v", k.name, b, got, written(got))
		}
	}
}

// P4.2, P4.3, P4.4: all rows of up to two bytes, and of those that are at some edge up to five.
func TestAllShort(t *testing.T) {
	check(t, nil)
	for a := range 256 {
		check(t, []byte{byte(a)})
		for b := range 256 {
			check(t, []byte{byte(a), byte(b)})
		}
	}
	edges := []byte{0, 1, 2, 3, 6, 127, 128, 129, 255}
	rows := [][]byte{{}}
	for range 5 {
		longer := [][]byte{}
		for _, row := range rows {
			for _, b := range edges {
				longer = append(longer, append(slices.Clone(row), b))
			}
		}
		rows = longer
		if len(rows[0]) > 2 {
			for _, row := range rows {
				check(t, row)
			}
		}
	}
}

// P4.2: numbers of eight, nine, ten and more bytes, with and without something behind them.
func TestLongNumbers(t *testing.T) {
	for _, full := range []byte{128, 129, 200, 255} {
		for n := range 13 {
			ahead := bytes.Repeat([]byte{full}, n)
			check(t, ahead)
			for last := range 256 {
				row := append(slices.Clone(ahead), byte(last))
				check(t, row)
				for _, behind := range []byte{0, 1, 127, 128, 255} {
					check(t, append(slices.Clone(row), behind))
				}
			}
		}
	}
}

// P4.2: what is wrong, and how much is left then, by hand.
func TestWrong(t *testing.T) {
	nine := bytes.Repeat([]byte{255}, 9)
	with := func(b ...byte) []byte { return append(slices.Clone(nine), b...) }
	kinds := kinds()
	number, text, truth, num, ident, none, most := kinds[0], kinds[1], kinds[2], kinds[3], kinds[4], kinds[5], kinds[10]
	for _, x := range []struct {
		kind  kind
		b     []byte
		wrong api.Errno
	}{
		{number, nil, api.ErrShort}, {number, []byte{128}, api.ErrShort}, {number, []byte{255, 255}, api.ErrShort},
		{number, []byte{128, 0}, api.ErrForm}, {number, []byte{255, 0}, api.ErrForm}, {number, []byte{128, 128, 0, 1}, api.ErrForm},
		{number, nine, api.ErrShort}, {number, with(0), api.ErrForm}, {number, with(2), api.ErrForm}, {number, with(127), api.ErrForm},
		{number, with(128), api.ErrForm}, {number, with(129), api.ErrForm}, {number, with(255), api.ErrForm},
		{number, with(129, 0), api.ErrForm}, {number, with(128, 128), api.ErrForm}, {number, with(2, 5), api.ErrForm},
		{num, nil, api.ErrShort}, {num, nine, api.ErrShort}, {num, with(0), api.ErrForm}, {num, with(2), api.ErrForm},
		{num, with(128), api.ErrForm}, {num, with(129, 1), api.ErrForm}, {num, []byte{129, 0}, api.ErrForm},
		{text, nil, api.ErrShort}, {text, []byte{2}, api.ErrShort}, {text, []byte{4, 97}, api.ErrShort}, {text, []byte{128}, api.ErrShort},
		{text, []byte{1}, api.ErrForm}, {text, []byte{3, 97, 97}, api.ErrForm}, {text, []byte{130, 0, 97}, api.ErrForm},
		{text, with(1), api.ErrForm}, {text, []byte{254, 255, 255, 255, 255, 255, 255, 255, 255, 1, 97}, api.ErrShort},
		{text, with(2), api.ErrForm}, {text, nine, api.ErrShort},
		{truth, nil, api.ErrShort}, {truth, []byte{1}, api.ErrForm}, {truth, []byte{3}, api.ErrForm}, {truth, []byte{4}, api.ErrForm},
		{truth, []byte{128}, api.ErrShort}, {truth, []byte{130, 0}, api.ErrForm}, {truth, []byte{130, 1}, api.ErrForm}, {truth, with(1), api.ErrForm},
		{none, []byte{2}, api.ErrForm}, {none, []byte{1}, api.ErrForm}, {none, nil, api.ErrShort}, {none, []byte{128, 0}, api.ErrForm},
		{most, with(1), api.ErrForm}, {most, []byte{128, 128, 128, 128, 16}, api.ErrForm}, {most, []byte{1}, api.ErrForm},
		{ident, nil, api.ErrShort}, {ident, []byte{2}, api.ErrShort}, {ident, []byte{2, 4}, api.ErrShort}, {ident, []byte{2, 4, 200}, api.ErrShort},
		{ident, []byte{2, 128, 0, 1}, api.ErrForm}, {ident, []byte{128, 0, 128}, api.ErrForm}, {ident, []byte{2, 4, 128, 0}, api.ErrForm},
		{ident, append([]byte{2, 4}, with(3)...), api.ErrForm}, {ident, append([]byte{2}, with(3)...), api.ErrForm},
	} {
		i := pack.Open(x.b)
		if got := x.kind.read(i); got != x.kind.none || i.Left() != len(x.b) || i.Err() != x.wrong || i.End() != x.wrong {
			t.Errorf("%s of %v: %v, %d left, %v, at the end %v; not %v", x.kind.name, x.b, got, i.Left(), i.Err(), i.End(), x.wrong)
		}
	}
}

// P4.2: ten bytes, of which the last one is 1, are well formed, whatever stands behind them.
func TestTenBytes(t *testing.T) {
	full := append(bytes.Repeat([]byte{255}, 9), 1)
	for _, behind := range [][]byte{nil, {0}, {1}, {128}, {255, 255}} {
		b := append(slices.Clone(full), behind...)
		if i := pack.Open(b); i.Num() != math.MaxUint64 || i.Left() != len(behind) || i.Err() != api.OK {
			t.Errorf("Num of %v: %d left, %v", b, i.Left(), i.Err())
		}
		if i := pack.Open(b); i.Int() != math.MinInt || i.Left() != len(behind) || i.Err() != api.OK {
			t.Errorf("Int of %v: %d left, %v", b, i.Left(), i.Err())
		}
	}
}

// P4.2, P4.3: behind something wrong nothing is read any more: what is left stays, and the first thing that was wrong is told.
func TestBehindWrong(t *testing.T) {
	ahead := []any{5, "abc", true}
	for _, x := range []struct {
		b     []byte
		wrong api.Errno
		call  func(i *pack.In)
	}{
		{[]byte{4, 2, 2, 97, 2, 2, 2}, api.ErrForm, func(i *pack.In) { i.Bool() }},
		{[]byte{1, 2, 2, 97, 2, 2, 2}, api.ErrForm, func(i *pack.In) { i.Text() }},
		{[]byte{100, 2, 2, 97, 2}, api.ErrShort, func(i *pack.In) { i.Text() }},
		{[]byte{6, 2, 2, 97, 2, 2, 2}, api.ErrForm, func(i *pack.In) { i.Many(2) }},
		{[]byte{2, 2, 128, 0, 2, 2, 2}, api.ErrForm, func(i *pack.In) { i.Ident() }},
		{[]byte{2, 2, 128}, api.ErrShort, func(i *pack.In) { i.Ident() }},
		{[]byte{128, 0, 2}, api.ErrForm, func(i *pack.In) { i.Int() }},
		{[]byte{128}, api.ErrShort, func(i *pack.In) { i.Num() }},
		{nil, api.ErrShort, func(i *pack.In) { i.Many(1) }},
	} {
		for n := range len(ahead) + 1 {
			all := append(written(ahead[:n]...), x.b...)
			i := pack.Open(all)
			for _, thing := range ahead[:n] {
				if got := reread(i, thing); got != thing || i.Err() != api.OK {
					t.Fatalf("ahead of what is wrong: %v, %v", got, i.Err())
				}
			}
			x.call(i)
			for range 2 {
				for _, k := range kinds() {
					if got := k.read(i); got != k.none || i.Left() != len(x.b) || i.Err() != x.wrong || i.End() != x.wrong {
						t.Errorf("%s behind what is wrong in %v: %v, %d left, %v, at the end %v; not %d, %v", k.name, all, got, i.Left(), i.Err(), i.End(), len(x.b), x.wrong)
					}
				}
			}
		}
	}
}

// P4.4: no beginning of what was written is whole.
func TestBeginnings(t *testing.T) {
	for _, thing := range things() {
		all := written(thing)
		if len(all) > 300 {
			continue
		}
		for n := range all {
			i := pack.Open(all[:n])
			zero := pack.Open(nil)
			if got := reread(i, thing); got != reread(zero, thing) || i.Left() != n || i.Err() != api.ErrShort || i.End() != api.ErrShort {
				t.Errorf("%d bytes of %T %.40v: %v, %d left, %v", n, thing, thing, got, i.Left(), i.Err())
			}
		}
	}
}

// Numbers that Many may not be handed: it does not panic, and what is read is from 0 to most.
func TestManyOfNone(t *testing.T) {
	for _, most := range []int{-1, -2, math.MinInt} {
		for _, b := range [][]byte{{0}, {1}, {2}, {3}} {
			if i := pack.Open(b); i.Many(most) != 0 || i.Left() != 1 || i.Err() != api.ErrForm {
				t.Errorf("Many of %d, at %v: %d left, %v", most, b, i.Left(), i.Err())
			}
		}
	}
}

// FuzzRow: whatever the bytes are, each way of reading tells what it has to, one after the other.
func FuzzRow(f *testing.F) {
	f.Add([]byte{3, 4, 97, 98, 2, 200, 1}, []byte{0, 1, 2, 3})
	f.Add([]byte{24, 144, 3, 5, 128, 0}, []byte{4, 5, 0})
	f.Fuzz(func(t *testing.T, b, ways []byte) {
		kinds := kinds()
		i, at, wrong := pack.Open(b), 0, api.OK
		for _, way := range ways {
			k := kinds[int(way)%len(kinds)]
			want, used := k.none, 0
			if wrong == api.OK {
				want, used, wrong = k.has(b[at:])
			}
			at += used
			if got := k.read(i); got != want || i.Left() != len(b)-at || i.Err() != wrong || i.End() != end(len(b)-at, wrong) {
				t.Fatalf("%s at %d of %v: %v, %d left, %v; not %v, %v", k.name, at, b, got, i.Left(), i.Err(), want, wrong)
			}
		}
	})
}
