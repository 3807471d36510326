package seal_test

import (
	"bytes"
	"encoding/hex"
	"fmt"
	"math"
	"math/big"
	"math/rand"
	"slices"
	"testing"

	"huddle/api"
	"huddle/hash"
	"huddle/seal"
)

const (
	p    = api.P
	most = 1 << 20 // bytes of a text
)

// wordsOf are the sevens of bytes, each as a number, worked out from their last byte on.
func wordsOf(b []byte) []uint64 {
	l := make([]uint64, (len(b)+6)/7)
	for i := len(b) - 1; i >= 0; i-- {
		l[i/7] = l[i/7]*256 + uint64(b[i])
	}
	return l
}

// sum is chapter 2's Of, by big integers.
func sum(label string, l ...uint64) uint64 {
	row := slices.Concat(wordsOf([]byte(label)), []uint64{uint64(len(l))}, l, []uint64{0})
	s, prime := big.NewInt(int64(len(label))), big.NewInt(p)
	for i, word := range row {
		s.Mul(s, big.NewInt(37))
		s.Add(s, new(big.Int).SetUint64(word%p))
		s.Add(s, big.NewInt(int64(i+1)))
		s.Exp(s, big.NewInt(17), prime)
	}
	return s.Uint64()
}

// sumOfBytes is chapter 2's Bytes.
func sumOfBytes(label string, b []byte) uint64 {
	return sum(label, append(wordsOf(b), uint64(len(b)))...)
}

// streamOf is chapter 2's Stream, of chapter 2's Secret of the label seal and a key.
func streamOf(key uint64, n int) []byte {
	secret, b := 1+sum("seal", key)%(p-2), []byte{}
	for k := 0; len(b) < n; k++ {
		for word, i := sum("stream", secret, uint64(k)), 0; i < 7; i++ {
			b, word = append(b, byte(word%256)), word/256
		}
	}
	return b[:n]
}

// eight are the bytes of a number, the least first.
func eight(n uint64) []byte {
	b := []byte{}
	for range 8 {
		b, n = append(b, byte(n%256)), n/256
	}
	return b
}

// tagOf is what has to stand behind sealed bytes.
func tagOf(key uint64, along, b []byte) uint64 {
	return sum("mac", key, sumOfBytes("along", along), sumOfBytes("text", b))
}

// tagged are bytes, with their tag behind.
func tagged(key uint64, along, b []byte) []byte {
	return slices.Concat(b, eight(tagOf(key, along, b)))
}

// differ is in what bytes differ, one by one, as far as both go.
func differ(a, b []byte) []byte {
	l := make([]byte, min(len(a), len(b)))
	for i := range l {
		l[i] = a[i] ^ b[i]
	}
	return l
}

// want is a text, sealed.
func want(key uint64, along, text []byte) []byte {
	return tagged(key, along, differ(text, streamOf(key, len(text))))
}

// keys are both ends of the field and of all numbers, multiples of P, and others.
func keys() []uint64 {
	return []uint64{0, 1, 5, 6, 37, 1 << 60, p - 2, p - 1, p, p + 5, 2 * p, 7*p + 6, 8*p - 1, 8 * p, math.MaxUint64 - 1, math.MaxUint64}
}

// few are some of the keys.
func few() []uint64 { return []uint64{0, 5, p - 1, p, math.MaxUint64} }

// someBytes are bytes by chance, the same ones for the same n and seed.
func someBytes(n int, seed int64) []byte {
	b := make([]byte, n)
	rand.New(rand.NewSource(seed<<20 + int64(n))).Read(b)
	return b
}

// texts are of no byte, of lengths about the sevens, and of many more; noughts, the greatest bytes and others.
func texts() [][]byte {
	l := [][]byte{nil, {}, []byte("b"), []byte("a text"), []byte("gr\u00fc\u00df dich")}
	for _, n := range []int{1, 2, 6, 7, 8, 13, 14, 15, 21, 22, 200, 777} {
		l = append(l, make([]byte, n), bytes.Repeat([]byte{255}, n), someBytes(n, 7))
	}
	return l
}

// alongs are what may go along: nil, nothing, and of lengths about the sevens.
func alongs() [][]byte {
	l := [][]byte{nil, {}, []byte("a"), []byte("c"), {0}, {0, 0}}
	for _, n := range []int{6, 7, 8, 14, 15, 100} {
		l = append(l, someBytes(n, 8))
	}
	return l
}

// opens holds bytes to be opened as a text.
func opens(t *testing.T, what string, key uint64, along, b, text []byte) {
	t.Helper()
	if got, e := seal.Open(key, along, b); e != api.OK || !bytes.Equal(got, text) {
		t.Errorf("%s: Open(%d, %d, %d): %d, %v, and not %d", what, key, along, b, got, e, text)
	}
}

// P7.1: what is told, byte by byte, as the chapter's words have it.
func TestSeal(t *testing.T) {
	for _, key := range few() {
		for _, along := range alongs() {
			for _, text := range texts() {
				got, all := seal.Seal(key, along, text), want(key, along, text)
				if len(got) != len(all) {
					t.Fatalf("Seal(%d, %d, %d): %d bytes, and not %d", key, along, text, len(got), len(all))
				}
				for i := range all {
					if got[i] != all[i] {
						t.Fatalf("Seal(%d, %d, %d): byte %d of %d is %d, and not %d", key, along, text, i, len(all), got[i], all[i])
					}
				}
			}
		}
	}
	for _, key := range keys() {
		if got, all := seal.Seal(key, []byte("along"), []byte("a text of some words")), want(key, []byte("along"), []byte("a text of some words")); !bytes.Equal(got, all) {
			t.Errorf("by %d: %d, and not %d", key, got, all)
		}
	}
}

// P7.1, P7.2: bytes that were worked out elsewhere.
func TestWrittenOut(t *testing.T) {
	for _, x := range []struct {
		key         uint64
		along, text string
		want        string
	}{
		{5, "", "", "a6352c02b018220f"},
		{5, "a", "b", "a49ab6f3aae33d2211"},
		{p + 5, "a", "b", "a49ab6f3aae33d2211"},
		{0, "", "\x00\x00\x00\x00\x00\x00\x00\x00", "8305f35dd3142f2e22742a37315edf0a"},
		{p - 1, "along", "a text", "4432e0273bd5fd9a5c4b9a40ba14"},
		{p, "along", "a text of fifte", "e2258738ab600f414ffa21cc3a22c4df012c8dacc70314"},
		{math.MaxUint64, "\xff\xff\xff\xff\xff\xff\xff\xff", "\x00\x01\x02\x03\x04\x05\x06\x07\x08\x09\x0a\x0b\x0c\x0d", "ea00991f436a78f416b4a032a60976104958e1663000"},
	} {
		b, err := hex.DecodeString(x.want)
		if err != nil {
			t.Fatal(err)
		}
		if got := seal.Seal(x.key, []byte(x.along), []byte(x.text)); !bytes.Equal(got, b) {
			t.Errorf("Seal(%d, %q, %q): %x, and not %s", x.key, x.along, x.text, got, x.want)
		}
		opens(t, "written", x.key, []byte(x.along), b, []byte(x.text))
	}
}

// P7.3: what is sealed has 8 bytes more, and is opened as it was, by the same key, whichever number it stands as.
func TestRound(t *testing.T) {
	for _, key := range keys() {
		for _, along := range [][]byte{nil, []byte("along"), someBytes(15, 1)} {
			for _, text := range texts() {
				b := seal.Seal(key, along, text)
				if len(b) != len(text)+8 {
					t.Errorf("%d bytes, sealed by %d: %d", len(text), key, len(b))
				}
				opens(t, "same key", key, along, b, text)
			}
		}
	}
}

// P7.3: keys that are the same modulo P seal alike, and open what another one of them sealed.
func TestSameModuloP(t *testing.T) {
	for _, rest := range []uint64{0, 5, p - 1} {
		for _, times := range []uint64{1, 2, 7} {
			other := rest + times*p
			for _, along := range [][]byte{nil, []byte("along")} {
				for _, text := range texts() {
					b := seal.Seal(rest, along, text)
					opens(t, "same modulo P", other, along, b, text)
					if again := seal.Seal(other, along, text); !bytes.Equal(again, b) {
						t.Errorf("%d, sealed by %d: %d, by %d: %d", text, rest, b, other, again)
					}
				}
			}
		}
	}
}

// Nil and nothing are one: as a text, and as what goes along.
func TestNothing(t *testing.T) {
	for _, key := range few() {
		for _, along := range [][]byte{nil, {}} {
			for _, text := range [][]byte{nil, {}} {
				b := seal.Seal(key, along, text)
				if all := eight(sum("mac", key, sum("along", 0), sum("text", 0))); !bytes.Equal(b, all) {
					t.Errorf("nothing, sealed by %d: %d, and not %d", key, b, all)
				}
				opens(t, "nothing", key, nil, b, nil)
				opens(t, "nothing", key, []byte{}, b, nil)
			}
		}
	}
}

// P7.2, P7.3: whatever bytes have their tag behind them are opened, and what is opened is sealed to the same bytes.
func TestOpenedIsSealedAgain(t *testing.T) {
	for _, key := range few() {
		for _, along := range alongs() {
			for _, body := range texts() {
				b := tagged(key, along, body)
				opens(t, "any bytes", key, along, b, differ(body, streamOf(key, len(body))))
				text, e := seal.Open(key, along, b)
				if again := seal.Seal(key, along, text); e != api.OK || !bytes.Equal(again, b) {
					t.Errorf("Open(%d, %d, %d): %d, %v, which is sealed to %d", key, along, b, text, e, again)
				}
			}
		}
	}
}

// P7.3: there is one sealing of each text: the same bytes with a tag that is the same modulo P, but no field number, are refused.
func TestOneSealing(t *testing.T) {
	for _, key := range few() {
		text := []byte("a text of some words")
		b := seal.Seal(key, nil, text)
		body, tag := b[:len(text)], tagOf(key, nil, b[:len(text)])
		for times := range uint64(8) {
			b := slices.Concat(body, eight(tag+times*p)) // 8 bytes have room for a tag and 7 times P
			if times == 0 {
				opens(t, "the tag", key, nil, b, text)
			} else {
				shut(t, "the tag and P, some times", key, nil, b, api.ErrTag)
			}
		}
	}
}

// P7.5: of two texts of one length the sealed bytes differ as the texts do, whatever goes along.
func TestPadTwice(t *testing.T) {
	for _, key := range keys() {
		for _, n := range []int{1, 6, 7, 8, 13, 14, 15, 200} {
			a, b := someBytes(n, 1), someBytes(n, 2)
			for _, along := range [][2]string{{"", ""}, {"a", "a"}, {"a", "c"}, {"", "along"}, {"long ones go", "along"}} {
				x, y := seal.Seal(key, []byte(along[0]), a), seal.Seal(key, []byte(along[1]), b)
				if got, all := differ(x[:n], y[:n]), differ(a, b); !bytes.Equal(got, all) {
					t.Errorf("%d and %d, sealed by %d along %q, differ in %d, and not %d", a, b, key, along, got, all)
				}
			}
		}
	}
}

// P7.5: a text that begins a longer one is sealed to what begins that one's, but for the tag, whatever goes along.
func TestBegins(t *testing.T) {
	for _, key := range few() {
		text := someBytes(60, 3)
		long := seal.Seal(key, []byte("a"), text)
		for n := range text {
			for _, along := range [][]byte{nil, []byte("a"), []byte("c")} {
				if b := seal.Seal(key, along, text[:n]); !bytes.Equal(b[:n], long[:n]) {
					t.Errorf("%d bytes, sealed by %d: %d, which does not begin %d", n, key, b, long)
				}
			}
			if b := seal.Seal(key, []byte("a"), text[:n]); bytes.Equal(b[n:], long[60:]) {
				t.Errorf("%d bytes have the tag of 60, by %d: %d", n, key, b)
			}
		}
	}
}

// The chapter's examples.
func TestExamples(t *testing.T) {
	b := seal.Seal(5, []byte("a"), []byte("b"))
	if len(b) != 9 {
		t.Errorf("%d bytes: %d", len(b), b)
	}
	opens(t, "example", 5, []byte("a"), b, []byte("b"))
	shut(t, "example", 5, []byte("c"), b, api.ErrTag)
	shut(t, "example", 6, []byte("a"), b, api.ErrTag)
}

// P7.1 to P7.3: the longest texts; by chapter 2's own package, as big integers take long.
func TestLongest(t *testing.T) {
	for _, n := range []int{most - 1, most} {
		text, along := someBytes(n, 4), []byte("along")
		b := seal.Seal(5, along, text)
		body := differ(text, hash.Stream(hash.Secret("seal", 5), n))
		tag := eight(hash.Of("mac", 5, hash.Bytes("along", along), hash.Bytes("text", body)))
		if !bytes.Equal(b, slices.Concat(body, tag)) {
			t.Errorf("a text of %d bytes is sealed otherwise", n)
		}
		if got, e := seal.Open(5, along, b); e != api.OK || !bytes.Equal(got, text) {
			t.Errorf("a text of %d bytes is opened otherwise: %d bytes, %v", n, len(got), e)
		}
		for _, at := range []int{0, n / 2, n - 1, n, n + 7} {
			b[at] ^= 128
			if got, e := seal.Open(5, along, b); e != api.ErrTag || len(got) != 0 {
				t.Errorf("byte %d of %d turned: %d bytes, %v", at, n, len(got), e)
			}
			b[at] ^= 128
		}
	}
	// What goes along may be as long, and longer.
	for _, n := range []int{most, most + 9} {
		along := someBytes(n, 5)
		b := seal.Seal(5, along, []byte("b"))
		opens(t, fmt.Sprintf("%d bytes along", n), 5, along, b, []byte("b"))
		along[n-1] ^= 1
		if got, e := seal.Open(5, along, b); e != api.ErrTag || len(got) != 0 {
			t.Errorf("the last of %d bytes along turned: %d, %v", n, got, e)
		}
	}
}
