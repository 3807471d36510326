package hash_test

import (
	"bytes"
	"math"
	"math/big"
	"math/rand"
	"slices"
	"strings"
	"testing"

	"huddle/api"
	"huddle/field"
	"huddle/hash"
)

const (
	p    = api.P
	most = 1 << 20 // bytes of a stream
)

// wordsOf are the sevens of bytes, each as a number, worked out from their last byte on.
func wordsOf(b []byte) []uint64 {
	l := make([]uint64, (len(b)+6)/7)
	for i := len(b) - 1; i >= 0; i-- {
		l[i/7] = l[i/7]*256 + uint64(b[i])
	}
	return l
}

// takenIn are all words that a sum takes in, but the 0 at its end.
func takenIn(label string, l []uint64) []uint64 {
	row := append(wordsOf([]byte(label)), uint64(len(l)))
	for _, n := range l {
		row = append(row, n%p)
	}
	return row
}

// sumOf takes words in, by big integers.
func sumOf(start int, row []uint64) uint64 {
	s, prime := big.NewInt(int64(start)), big.NewInt(p)
	for i, word := range row {
		s.Mul(s, big.NewInt(37))
		s.Add(s, new(big.Int).SetUint64(word))
		s.Add(s, big.NewInt(int64(i+1)))
		s.Exp(s, big.NewInt(17), prime)
	}
	return s.Uint64()
}

// wantOf is what Of has to answer.
func wantOf(label string, l ...uint64) uint64 {
	return sumOf(len(label), append(takenIn(label, l), 0))
}

// wantStream is what Stream has to answer.
func wantStream(key uint64, n int) []byte {
	b := []byte{}
	for k := 0; len(b) < n; k++ {
		for word, i := wantOf("stream", key, uint64(k)), 0; i < 7; i++ {
			b, word = append(b, byte(word%256)), word/256
		}
	}
	return b[:n]
}

// lengths are about seven, its multiples, and none.
func lengths() []int {
	return []int{0, 1, 2, 5, 6, 7, 8, 9, 13, 14, 15, 20, 21, 22, 48, 49, 50, 55, 56, 57, 64, 200, 700, 701}
}

// numbers are small ones, those about P and its multiples, and those at the end of a word.
func numbers() []uint64 {
	l := []uint64{0, 1, 2, 5, 97, 256, 1<<56 - 1, 1 << 56, 1 << 60, 1 << 63, 1<<64 - 1}
	for k := range uint64(8) {
		l = append(l, k*p+p-2, k*p+p-1, k*p+p, k*p+p+1)
	}
	return l
}

// bytesOf are some bytes, others for each length.
func bytesOf(n int) []byte {
	b := make([]byte, n)
	rand.New(rand.NewSource(int64(n))).Read(b)
	return b
}

// labels are of all lengths, of bytes that are no letters too.
func labels() []string {
	l := []string{"a", "b", "ab", "stream", "draw", "\x00", "\x00\x00", "\xff\xff\xff\xff\xff\xff\xff", "gr\u00fc\u00df dich"}
	for _, n := range lengths() {
		l = append(l, string(bytesOf(n)), strings.Repeat("\x00", n), strings.Repeat("x", n))
	}
	return l
}

// rows are rows of numbers, of none and of many.
func rows() [][]uint64 {
	l := [][]uint64{nil, {}, numbers(), slices.Repeat(numbers(), 5), make([]uint64, 3)}
	for _, n := range numbers() {
		l = append(l, []uint64{n}, []uint64{n, 0}, []uint64{0, n, p})
	}
	return l
}

// P2.1: Of takes the label's words in, then how many numbers there are, these, and 0.
func TestOf(t *testing.T) {
	for _, label := range labels() {
		for _, l := range rows() {
			if got, want := hash.Of(label, l...), wantOf(label, l...); got != want {
				t.Errorf("Of of %q and %d: %d, not %d", label, l, got, want)
			}
		}
	}
}

// P2.1: sums that were worked out elsewhere.
func TestOfWrittenOut(t *testing.T) {
	for _, x := range []struct {
		label string
		l     []uint64
		want  uint64
	}{
		{"", nil, 1129655117503165689},
		{"", []uint64{0}, 631642820029253043},
		{"a", nil, 264985763804820228},
		{"a", []uint64{5}, 361941418336463432},
		{"a", []uint64{p + 5}, 361941418336463432},
		{"a", []uint64{6}, 60640079472342724},
		{"a", []uint64{0, 0}, 1403116741656225544},
		{"sixsix", []uint64{1, 2}, 1037169782631316285},
		{"sevenst", []uint64{1, 2}, 2091454464035236452},
		{"eightlet", []uint64{1, 2}, 328722048503935468},
		{"fourteen bytes", []uint64{1, 2}, 687269446572210833},
		{"fifteen of them", []uint64{math.MaxUint64}, 738752616075491254},
		{"\xff\xff\xff\xff\xff\xff\xff\x00\xfe", []uint64{p, p - 1, 2 * p, math.MaxUint64, 7*p + p + 3}, 790239972371807959},
	} {
		if got := hash.Of(x.label, x.l...); got != x.want {
			t.Errorf("Of of %q and %d: %d, not %d", x.label, x.l, got, x.want)
		}
		if got := hash.Secret(x.label, x.l...); got != x.want+1 {
			t.Errorf("Secret of %q and %d: %d, not %d", x.label, x.l, got, x.want+1)
		}
	}
}

// P2.2: Bytes is Of of the words and of how many bytes there are.
func TestBytes(t *testing.T) {
	all := [][]byte{nil, {}, []byte("ab")}
	for _, n := range lengths() {
		all = append(all, bytesOf(n), make([]byte, n), bytes.Repeat([]byte{0xff}, n))
	}
	for _, label := range labels() {
		for _, b := range all {
			l := append(wordsOf(b), uint64(len(b)))
			if got, want := hash.Bytes(label, b), hash.Of(label, l...); got != want {
				t.Errorf("Bytes of %q and %d: %d, not %d", label, b, got, want)
			}
		}
	}
	if hash.Bytes("a", []byte("ab")) != hash.Of("a", 97+256*98, 2) {
		t.Error("Bytes of ab")
	}
}

// P2.2: sums of bytes that were worked out elsewhere.
func TestBytesWrittenOut(t *testing.T) {
	upward := make([]byte, 64)
	for i := range upward {
		upward[i] = byte(i)
	}
	for _, x := range []struct {
		label string
		b     []byte
		want  uint64
	}{
		{"", nil, 631642820029253043},
		{"a", []byte{}, 2091799293687898034},
		{"a", []byte("ab"), 617943457397008429},
		{"a", []byte("ab\x00"), 234882732270247195},
		{"b", make([]byte, 7), 1562898905895960855},
		{"b", bytes.Repeat([]byte{255}, 6), 1704248209312386536},
		{"b", bytes.Repeat([]byte{255}, 7), 2262277995548543545},
		{"b", bytes.Repeat([]byte{255}, 8), 715821811776714946},
		{"b", bytes.Repeat([]byte{255}, 14), 921299469881521230},
		{"b", bytes.Repeat([]byte{255}, 15), 1667337796066500872},
		{"chunk", upward, 860581466808007885},
	} {
		if got := hash.Bytes(x.label, x.b); got != x.want {
			t.Errorf("Bytes of %q and %d: %d, not %d", x.label, x.b, got, x.want)
		}
	}
}

// lastFor is the number that makes the sum of label, the numbers of l and it that which is wanted:
// each word is given back by the root of what stands behind it.
func lastFor(wanted uint64, label string, l ...uint64) uint64 {
	row := takenIn(label, append(slices.Clone(l), 0))
	k := uint64(len(row))
	root := new(big.Int).ModInverse(big.NewInt(17), big.NewInt(p-1)).Uint64()
	behind := field.Mul(field.Sub(field.Pow(wanted, root), k+1), field.Inv(37))
	ahead := sumOf(len(label), row[:k-1])
	return field.Sub(field.Pow(behind, root), field.Add(field.Mul(37, ahead), k))
}

// P2.2, P2.5: Secret is 1 and Of modulo P - 2; sums about P - 2 are told apart from it.
func TestSecret(t *testing.T) {
	for _, label := range labels() {
		for _, l := range rows() {
			got := hash.Secret(label, l...)
			if want := 1 + hash.Of(label, l...)%(p-2); got != want {
				t.Errorf("Secret of %q and %d: %d, not %d", label, l, got, want)
			}
		}
		for sum, want := range map[uint64]uint64{0: 1, 1: 2, p - 4: p - 3, p - 3: p - 2, p - 2: 1, p - 1: 2} {
			n := lastFor(sum, label, 7, p-1)
			if got := hash.Of(label, 7, p-1, n); got != sum {
				t.Fatalf("Of of %q, 7, P - 1 and %d: %d, not %d", label, n, got, sum)
			}
			if got := hash.Secret(label, 7, p-1, n); got != want {
				t.Errorf("Secret where Of is %d: %d, not %d", sum, got, want)
			}
		}
	}
}

// P2.3: the bytes of a stream, of keys that are P and more too, of all lengths about seven.
func TestStream(t *testing.T) {
	for _, key := range numbers() {
		for _, n := range lengths() {
			if got, want := hash.Stream(key, n), wantStream(key, n); !bytes.Equal(got, want) {
				t.Errorf("Stream of %d, %d: %d, not %d", key, n, got, want)
			}
		}
	}
	for _, x := range []struct {
		key  uint64
		want []byte
	}{
		{0, []byte{75, 124, 39, 68, 77, 186, 21}},
		{5, []byte{254, 31, 133, 212, 222, 67, 162, 23}},
		{p + 5, []byte{254, 31, 133, 212, 222, 67, 162, 23, 122, 202, 137, 21, 171, 136}},
		{math.MaxUint64, []byte{95, 55, 71, 5, 49, 244, 60, 189, 111, 145, 52, 25, 173, 197, 170}},
		{p - 1, []byte{111, 110, 11, 163, 89, 208, 233, 206, 194, 119, 78, 81, 206, 0, 163, 136, 67, 80, 87, 56, 118, 97}},
	} {
		if got := hash.Stream(x.key, len(x.want)); !bytes.Equal(got, x.want) {
			t.Errorf("Stream of %d: %d, not %d", x.key, got, x.want)
		}
	}
}

// P2.3: the longest streams that may be asked for; others that can not be have no bytes, and do not panic.
func TestStreamEnds(t *testing.T) {
	long := hash.Stream(3, most)
	if len(long) != most {
		t.Fatalf("the longest stream has %d bytes", len(long))
	}
	last := hash.Of("stream", 3, most/7)
	for i, got := range long[most/7*7:] {
		if want := byte(last >> (8 * i)); got != want {
			t.Errorf("byte %d behind the last seven: %d, not %d", i, got, want)
		}
	}
	if !bytes.Equal(hash.Stream(3, most-1), long[:most-1]) {
		t.Error("the longest stream is begun by no shorter one")
	}
	for _, n := range []int{-1, -7, math.MinInt, math.MaxInt, math.MaxInt - 6, 1 << 40} {
		if got := hash.Stream(3, n); len(got) != 0 {
			t.Errorf("Stream of %d bytes has %d", n, len(got))
		}
	}
}

// P2.4: rows of one length of which just one number is another one modulo P.
func TestOneNumberTells(t *testing.T) {
	if new(big.Int).GCD(nil, nil, big.NewInt(17), big.NewInt(p-1)).Int64() != 1 {
		t.Fatal("17 has a divisor with P - 1")
	}
	for _, label := range []string{"", "a", "seven b", "eight by"} {
		for length := 1; length < 6; length++ {
			row := slices.Repeat([]uint64{p + 9}, length)
			for i := range row {
				seen := map[uint64]uint64{}
				for _, n := range numbers() {
					other := slices.Clone(row)
					other[i] = n
					sum := hash.Of(label, other...)
					if was, ok := seen[sum]; ok && was != n%p {
						t.Errorf("%d and %d at %d of %d have one sum", was, n, i, length)
					}
					seen[sum] = n % p
					if (sum == hash.Of(label, row...)) != (n%p == 9) {
						t.Errorf("%d at %d of %d in the place of P + 9", n, i, length)
					}
				}
			}
		}
	}
}

// oneWordTurned are bytes of one length that differ from b within one word.
func oneWordTurned(b []byte) [][]byte {
	var l [][]byte
	for i := range b {
		for _, by := range []byte{1, 0x80, 0xff} {
			other := bytes.Clone(b)
			other[i] ^= by
			l = append(l, other)
			if i%7 > 0 { // a byte beside it, of the same word
				more := bytes.Clone(other)
				more[i-1] ^= 0x55
				l = append(l, more)
			}
		}
	}
	return l
}

// P2.4: bytes, and labels, of one length that differ within one word.
func TestOneWordTells(t *testing.T) {
	for _, n := range lengths() {
		for _, b := range [][]byte{make([]byte, n), bytesOf(n), bytes.Repeat([]byte{0xff}, n)} {
			sum, labelled := hash.Bytes("a", b), hash.Of(string(b), 4, 5)
			for _, other := range oneWordTurned(b) {
				if hash.Bytes("a", other) == sum {
					t.Errorf("%d and %d have one sum", b, other)
				}
				if hash.Of(string(other), 4, 5) == labelled {
					t.Errorf("labels %q and %q have one sum", b, other)
				}
			}
		}
	}
}

// P2.1, P2.2: how many numbers, or bytes, there are is told as well, as is where a label ends.
func TestLengthTells(t *testing.T) {
	seen := map[uint64]string{}
	once := func(sum uint64, what string) {
		if was, ok := seen[sum]; ok {
			t.Errorf("%s and %s have one sum", was, what)
		}
		seen[sum] = what
	}
	for _, n := range lengths() {
		once(hash.Of("n", make([]uint64, n)...), "numbers")
		once(hash.Bytes("b", make([]byte, n)), "bytes")
		once(hash.Of(strings.Repeat("\x00", n)), "label")
	}
	once(hash.Of("ab", 'c'), "ab, c")
	once(hash.Of("a", 'b', 'c'), "a, b, c")
}

// P2.5: sums are field numbers, secrets are from 1 to P - 2.
func TestWhatIsAnswered(t *testing.T) {
	for _, label := range labels() {
		for _, l := range rows() {
			if sum := hash.Of(label, l...); !field.Ok(sum) {
				t.Errorf("Of of %q and %d: %d", label, l, sum)
			}
			if secret := hash.Secret(label, l...); secret < 1 || secret > p-2 {
				t.Errorf("Secret of %q and %d: %d", label, l, secret)
			}
		}
		if sum := hash.Bytes(label, []byte(label)); !field.Ok(sum) {
			t.Errorf("Bytes of %q: %d", label, sum)
		}
	}
}

// P2.5: shorter streams begin longer ones; those of keys that are alike modulo P are alike, others are not.
func TestStreamBegins(t *testing.T) {
	for _, key := range numbers() {
		long := hash.Stream(key, 100)
		for n := range 101 {
			if got := hash.Stream(key, n); !bytes.Equal(got, long[:n]) {
				t.Errorf("Stream of %d, %d does not begin the one of 100: %d", key, n, got)
			}
		}
		for _, other := range numbers() {
			if bytes.Equal(long, hash.Stream(other, 100)) != (key%p == other%p) {
				t.Errorf("streams of %d and of %d", key, other)
			}
		}
	}
}

// R4: nothing that is handed in is changed, its spare room neither; what is answered is new.
func TestHandedIn(t *testing.T) {
	for _, n := range lengths() {
		b := bytes.Repeat([]byte{0xa5}, n+20)
		hash.Bytes("a", b[:n])
		if !bytes.Equal(b, bytes.Repeat([]byte{0xa5}, n+20)) {
			t.Errorf("%d bytes were changed: %d", n, b)
		}
		l := slices.Repeat([]uint64{math.MaxUint64}, n+20)
		hash.Of("a", l[:n]...)
		hash.Secret("a", l[:n]...)
		if !slices.Equal(l, slices.Repeat([]uint64{math.MaxUint64}, n+20)) {
			t.Errorf("%d numbers were changed: %d", n, l)
		}
		clear(hash.Stream(1, n))
		if !bytes.Equal(hash.Stream(1, n), wantStream(1, n)) {
			t.Errorf("a stream of %d bytes was changed by what was done with another one", n)
		}
	}
}

// R5: the same is answered whenever it is asked, whatever was asked ahead.
func TestAskedAgain(t *testing.T) {
	first := []uint64{hash.Of("a", 5), hash.Bytes("a", []byte("ab")), hash.Secret("a", 5)}
	hash.Of("other", 1, 2, 3)
	hash.Stream(9, 50)
	again := []uint64{hash.Of("a", 5), hash.Bytes("a", []byte("ab")), hash.Secret("a", 5)}
	if !slices.Equal(first, again) {
		t.Errorf("%d, then %d", first, again)
	}
}

// The chapter's examples.
func TestExamples(t *testing.T) {
	if hash.Of("a", 5) != hash.Of("a", p+5) {
		t.Error("5 and P + 5")
	}
	if hash.Of("a", 5) == hash.Of("a", 6) {
		t.Error("5 and 6")
	}
	for n := range uint64(1000) {
		if hash.Secret("a", n) == 0 {
			t.Errorf("a Secret of %d is 0", n)
		}
	}
}
