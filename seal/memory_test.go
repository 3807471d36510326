package seal_test

import (
	"bytes"
	"slices"
	"testing"

	"huddle/api"
	"huddle/seal"
)

// behind is what stands in the spare room of what is handed in.
func behind() []byte { return bytes.Repeat([]byte{0xa5}, 40) }

// spare is bytes with room behind them that is not 0.
func spare(b []byte) []byte { return slices.Concat(b, behind())[:len(b)] }

// scribble changes bytes, and their spare room.
func scribble(b []byte) {
	b = b[:cap(b)]
	for i := range b {
		b[i] ^= 0x77
	}
}

// kept holds bytes, and their spare room, to be what they were.
func kept(t *testing.T, what string, b, was []byte) {
	t.Helper()
	if all := slices.Concat(was, behind()); !bytes.Equal(b[:len(all)], all) {
		t.Errorf("%s was changed: %d, and not %d", what, b[:len(all)], all)
	}
}

// wrong are bytes that are refused by a key.
func wrong(key uint64, along, text []byte) [][]byte {
	turned := want(key, along, text)
	turned[0]++
	return [][]byte{nil, {1, 2, 3}, make([]byte, 8), turned}
}

// What is handed in is left as it was, its spare room too, where an error is told as well.
func TestHandedIn(t *testing.T) {
	for _, key := range few() {
		for _, was := range alongs() {
			for _, text := range texts() {
				along, a := spare(was), spare(text)
				b := spare(seal.Seal(key, along, a))
				sealed := bytes.Clone(b)
				kept(t, "along, of Seal,", along, was)
				kept(t, "a text", a, text)
				seal.Open(key, along, b)
				kept(t, "along, of Open,", along, was)
				kept(t, "what was sealed", b, sealed)
			}
			for _, b := range wrong(key, was, []byte("b")) {
				along, c := spare(was), spare(b)
				seal.Open(key, along, c)
				kept(t, "along, where it is an error,", along, was)
				kept(t, "what is refused", c, b)
			}
		}
	}
}

// What was told does not change with what was handed in, and when it is changed nothing else does.
func TestTold(t *testing.T) {
	for _, key := range few() {
		for _, along := range [][]byte{nil, []byte("along")} {
			for _, text := range texts() {
				all := want(key, along, text)
				a, c := spare(text), spare(along)
				sealed := seal.Seal(key, c, a)
				other := seal.Seal(key, c, a)
				opened, _ := seal.Open(key, c, sealed)
				scribble(a)
				scribble(c)
				same(t, "what was sealed, behind its text,", sealed, all)
				scribble(sealed)
				same(t, "what was opened, behind what was sealed,", opened, text)
				same(t, "another one that was sealed", other, all)
				again, _ := seal.Open(key, along, other)
				scribble(opened)
				same(t, "what was opened once more", again, text)
				same(t, "what it was opened of", other, all)
				same(t, "what is sealed now", seal.Seal(key, along, text), all)
			}
		}
	}
}

func same(t *testing.T, what string, got, all []byte) {
	t.Helper()
	if !bytes.Equal(got, all) {
		t.Errorf("%s is %d, and not %d", what, got, all)
	}
}

// What is put behind something that was told goes nowhere else.
func TestPutBehind(t *testing.T) {
	for _, text := range texts() {
		both := spare(seal.Seal(5, nil, text))
		was := bytes.Clone(both)
		opened, _ := seal.Open(5, nil, both)
		_ = append(opened, "something else"...)
		kept(t, "what was opened", both, was)
	}
}

// One slice may be handed in twice, or parts of one that lie over one another.
func TestOneTwice(t *testing.T) {
	for _, key := range few() {
		for _, text := range texts() {
			b := bytes.Clone(text)
			same(t, "sealed along itself", seal.Seal(key, b, b), want(key, text, text))
			same(t, "what was handed in twice", b, text)
			if n := len(b); n > 3 {
				same(t, "sealed along a part", seal.Seal(key, b[1:], b[:n-1]), want(key, text[1:], text[:n-1]))
			}
			own := seal.Seal(key, nil, text)
			shut(t, "opened along itself", key, own, own, api.ErrTag)
			// What goes along may be a part of what is opened: no text hangs on what goes along, but its tag does.
			body := own[:len(text)]
			both := want(key, body, text)
			opens(t, "opened along a part of it", key, both[:len(text)], both, text)
		}
	}
}

// The same is told whenever it is asked, whatever was asked ahead.
func TestAskedAgain(t *testing.T) {
	for _, key := range few() {
		for _, text := range texts() {
			first := seal.Seal(key, nil, text)
			seal.Open(key, []byte("other"), first)
			seal.Seal(key+1, []byte("other"), slices.Concat(text, text))
			seal.Open(key, nil, nil)
			same(t, "the same, sealed again,", seal.Seal(key, nil, text), first)
			opens(t, "again", key, nil, first, text)
			opens(t, "and again", key, nil, first, text)
		}
	}
}
