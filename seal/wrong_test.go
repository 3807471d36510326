package seal_test

import (
	"bytes"
	"slices"
	"testing"

	"huddle/api"
	"huddle/seal"
)

// shut holds bytes to be refused, with no text beside the error.
func shut(t *testing.T, what string, key uint64, along, b []byte, e api.Errno) {
	t.Helper()
	if got, was := seal.Open(key, along, b); was != e || len(got) != 0 {
		t.Errorf("%s: Open(%d, %d, %d): %d, %v, and not %v", what, key, along, b, got, was, e)
	}
}

// P7.2: fewer than 8 bytes are ErrShort, whatever they are, ahead of ErrTag.
func TestShort(t *testing.T) {
	for _, key := range keys() {
		for _, along := range alongs() {
			shut(t, "nil", key, along, nil, api.ErrShort)
			// Beginnings and ends of what would be opened are too short, too.
			none, some := seal.Seal(key, along, nil), seal.Seal(key, along, []byte("some text"))
			for n := range 8 {
				for _, b := range [][]byte{make([]byte, n), bytes.Repeat([]byte{255}, n), someBytes(n, 9), none[:n], none[8-n:], some[:n], some[len(some)-n:]} {
					shut(t, "short", key, along, b, api.ErrShort)
				}
			}
		}
	}
}

// P7.2: 8 bytes are never too short: they are the tag of no text, or ErrTag.
func TestEight(t *testing.T) {
	for _, key := range keys() {
		for _, along := range alongs() {
			tag := eight(tagOf(key, along, nil))
			opens(t, "no text", key, along, tag, nil)
			for _, b := range [][]byte{make([]byte, 8), bytes.Repeat([]byte{255}, 8), someBytes(8, 10), []byte("8 bytes.")} {
				shut(t, "8 bytes", key, along, b, api.ErrTag)
			}
			slices.Reverse(tag)
			shut(t, "a tag, the greatest byte first", key, along, tag, api.ErrTag)
		}
	}
}

// P7.2: as many noughts, or other bytes, as are wanted are none that were sealed.
func TestNeverSealed(t *testing.T) {
	for _, key := range few() {
		for _, n := range []int{9, 14, 15, 16, 22, 23, 100, 1000} {
			shut(t, "noughts", key, nil, make([]byte, n), api.ErrTag)
			shut(t, "the greatest", key, nil, bytes.Repeat([]byte{255}, n), api.ErrTag)
			shut(t, "chance", key, nil, someBytes(n, 11), api.ErrTag)
		}
	}
	// Longer than what any text is sealed to.
	if got, e := seal.Open(5, nil, make([]byte, most+9)); e != api.ErrTag || len(got) != 0 {
		t.Errorf("%d noughts: %d bytes, %v", most+9, len(got), e)
	}
}

// P7.4: each byte of what is sealed, its tag too, that is any other one is told.
func TestTurned(t *testing.T) {
	for _, key := range few() {
		for _, text := range texts() {
			if len(text) > 22 {
				continue
			}
			b := seal.Seal(key, []byte("along"), text)
			for at := range b {
				for by := 1; by < 256; by++ {
					turned := bytes.Clone(b)
					turned[at] ^= byte(by)
					shut(t, "turned", key, []byte("along"), turned, api.ErrTag)
				}
			}
		}
	}
}

// P7.4: each bit of a longer text is told as well.
func TestTurnedBits(t *testing.T) {
	for _, key := range []uint64{0, 5} {
		b := seal.Seal(key, nil, someBytes(200, 12))
		for at := range b {
			for bit := range 8 {
				b[at] ^= 1 << bit
				shut(t, "turned", key, nil, b, api.ErrTag)
				b[at] ^= 1 << bit
			}
		}
	}
}

// P7.4: each byte of what goes along that is any other one is told, whatever the text.
func TestAlongTurned(t *testing.T) {
	for _, key := range few() {
		for _, text := range [][]byte{nil, []byte("b"), someBytes(15, 13)} {
			for _, n := range []int{1, 6, 7, 8, 15} {
				along := someBytes(n, 14)
				b := seal.Seal(key, along, text)
				for at := range along {
					for by := 1; by < 256; by++ {
						other := bytes.Clone(along)
						other[at] ^= byte(by)
						shut(t, "along turned", key, other, b, api.ErrTag)
					}
				}
			}
		}
	}
}

// P7.2: what goes along, if it is longer or shorter, is another tag's, noughts at an end too.
func TestAlongLonger(t *testing.T) {
	for _, key := range few() {
		for _, text := range [][]byte{nil, []byte("b"), someBytes(15, 13)} {
			for _, n := range []int{0, 1, 6, 7, 8, 14, 15} {
				for _, along := range [][]byte{make([]byte, n), someBytes(n, 15)} {
					b := seal.Seal(key, along, text)
					for more := 1; more < 16; more++ {
						shut(t, "noughts behind", key, slices.Concat(along, make([]byte, more)), b, api.ErrTag)
						shut(t, "noughts ahead", key, slices.Concat(make([]byte, more), along), b, api.ErrTag)
						shut(t, "more behind", key, slices.Concat(along, someBytes(more, 16)), b, api.ErrTag)
					}
					for k := range n {
						shut(t, "the last left off", key, along[:k], b, api.ErrTag)
						shut(t, "the first left off", key, along[n-k:], b, api.ErrTag)
					}
				}
			}
		}
	}
}

// P7.2: bytes that go over between what goes along and the text are told.
func TestAlongAndText(t *testing.T) {
	for _, key := range few() {
		all := someBytes(20, 17)
		for n := range all {
			b := seal.Seal(key, all[:n], all[n:])
			shut(t, "one more along", key, all[:n+1], b, api.ErrTag)
			shut(t, "one more along, and off the text", key, slices.Concat(all[:n], b[:1]), b[1:], api.ErrTag)
			shut(t, "the text along, and what goes along sealed", key, b[:len(b)-8], slices.Concat(all[:n], b[len(b)-8:]), api.ErrTag)
		}
	}
}

// P7.2: bytes that are left off, or put in, are told: by ErrTag, as long as there are 8.
func TestLongerOrShorter(t *testing.T) {
	for _, key := range few() {
		for _, text := range texts() {
			if len(text) > 22 {
				continue
			}
			b := seal.Seal(key, []byte("along"), text)
			for n := 8; n < len(b); n++ {
				shut(t, "the last left off", key, []byte("along"), b[:n], api.ErrTag)
				shut(t, "the first left off", key, []byte("along"), b[len(b)-n:], api.ErrTag)
			}
			body, tag := b[:len(text)], b[len(text):]
			for more := 1; more < 16; more++ {
				for _, put := range [][]byte{make([]byte, more), someBytes(more, 18)} {
					shut(t, "put behind", key, []byte("along"), slices.Concat(b, put), api.ErrTag)
					shut(t, "put ahead", key, []byte("along"), slices.Concat(put, b), api.ErrTag)
					shut(t, "put ahead of the tag", key, []byte("along"), slices.Concat(body, put, tag), api.ErrTag)
				}
			}
		}
	}
}

// P7.4: by every key that is not the same modulo P it is refused.
func TestOtherKeys(t *testing.T) {
	for _, key := range keys() {
		others := append(keys(), key+1, key-1, key^1<<63, key^1<<61, key^1<<60, key+p-1, ^key)
		for _, text := range [][]byte{nil, []byte("b"), []byte("some text"), someBytes(200, 19)} {
			for _, along := range [][]byte{nil, []byte("along")} {
				b := seal.Seal(key, along, text)
				for _, other := range others {
					if other%p == key%p {
						opens(t, "the same modulo P", other, along, b, text)
					} else {
						shut(t, "another key", other, along, b, api.ErrTag)
					}
				}
			}
		}
	}
}

// P7.4: the tag of one sealing is not another one's.
func TestMixed(t *testing.T) {
	for _, key := range few() {
		a, b := seal.Seal(key, nil, []byte("a text")), seal.Seal(key, nil, []byte("b text"))
		shut(t, "the tag of another text", key, nil, slices.Concat(a[:6], b[6:]), api.ErrTag)
		c := seal.Seal(key, []byte("c"), []byte("a text"))
		shut(t, "the tag of another along", key, nil, slices.Concat(a[:6], c[6:]), api.ErrTag)
		d := seal.Seal(key+1, nil, []byte("a text"))
		shut(t, "the tag of another key", key, nil, slices.Concat(a[:6], d[6:]), api.ErrTag)
		shut(t, "the bytes of another key", key, nil, slices.Concat(d[:6], a[6:]), api.ErrTag)
		// A tag of the text itself, as if it were not of the sealed bytes.
		shut(t, "the tag of the open text", key, nil, slices.Concat(a[:6], eight(tagOf(key, nil, []byte("a text")))), api.ErrTag)
	}
}
