package sign_test

import (
	"bytes"
	"math"
	"math/big"
	"math/rand"
	"slices"
	"testing"

	"huddle/api"
	"huddle/sign"
)

const (
	p     = api.P
	order = p - 1
)

// power is a number raised to another one, by big integers.
func power(a, n uint64) uint64 {
	base, times := new(big.Int).SetUint64(a), new(big.Int).SetUint64(n)
	return base.Exp(base, times, big.NewInt(p)).Uint64()
}

// product is that of two numbers modulo another one, by big integers.
func product(a, b, modulus uint64) uint64 {
	n := new(big.Int).SetUint64(a)
	n.Mul(n, new(big.Int).SetUint64(b))
	return n.Mod(n, new(big.Int).SetUint64(modulus)).Uint64()
}

// under is 1, divided by a number of the field that is not 0.
func under(a uint64) uint64 {
	n := new(big.Int).SetUint64(a)
	return n.ModInverse(n, big.NewInt(p)).Uint64()
}

// answer is S: the once, and e times the secret, by big integers.
func answer(once, e, secret uint64) uint64 {
	n := new(big.Int).SetUint64(e)
	n.Mul(n, new(big.Int).SetUint64(secret))
	n.Add(n, new(big.Int).SetUint64(once))
	return n.Mod(n, big.NewInt(order)).Uint64()
}

// wordsOf are the sevens of bytes, each as a number, worked out from their last byte on.
func wordsOf(b []byte) []uint64 {
	l := make([]uint64, (len(b)+6)/7)
	for i := len(b) - 1; i >= 0; i-- {
		l[i/7] = l[i/7]*256 + uint64(b[i])
	}
	return l
}

// sum is chapter 2's Of, by big integers.
func sum(label string, l ...uint64) uint64 {
	return state(uint64(len(label)), slices.Concat(wordsOf([]byte(label)), []uint64{uint64(len(l))}, l, []uint64{0})...)
}

// state is what a state becomes by words, which are the first ones.
func state(first uint64, words ...uint64) uint64 {
	s, prime := new(big.Int).SetUint64(first), big.NewInt(p)
	for i, word := range words {
		s.Mul(s, big.NewInt(37))
		s.Add(s, new(big.Int).SetUint64(word))
		s.Add(s, big.NewInt(int64(i+1)))
		s.Exp(s, big.NewInt(17), prime)
	}
	return s.Uint64()
}

// message is chapter 2's Bytes, of the label signed.
func message(b []byte) uint64 { return sum("signed", append(wordsOf(b), uint64(len(b)))...) }

// asked is e.
func asked(r, pub, m uint64) uint64 { return sum("sig", r, pub, m) }

// want is the signature of bytes by a secret.
func want(secret uint64, b []byte) api.Sig {
	m := message(b)
	once := 1 + sum("nonce", secret, m)%(p-2)
	return signedBy(secret, once, b)
}

// signedBy is a signature of bytes by a secret, whose once is whichever one is said.
func signedBy(secret, once uint64, b []byte) api.Sig {
	r := power(37, once)
	return api.Sig{R: r, S: answer(once, asked(r, power(37, secret), message(b)), secret)}
}

// meets tells whether a signature meets the reckoning, whatever its numbers may be.
func meets(pub uint64, b []byte, s api.Sig) bool {
	return power(37, s.S) == product(s.R, power(pub, asked(s.R, pub, message(b))), p)
}

// secrets are those at both ends of what they may be, those that have a divisor with P - 1, and others.
func secrets() []uint64 {
	l := []uint64{1, 2, 3, 5, 6, 7, 37, 1 << 32, 1 << 60, 1<<60 + 1, order / 2, order / 3, order / 1321, order/2 + 1, p - 4, p - 3, p - 2}
	chance := rand.New(rand.NewSource(8))
	for range 12 {
		l = append(l, 1+chance.Uint64()%(p-2))
	}
	return l
}

// round is after how many times the public key of a secret comes round.
func round(secret uint64) uint64 {
	n := new(big.Int).SetUint64(secret)
	return order / n.GCD(nil, nil, n, big.NewInt(order)).Uint64()
}

// soon and late are the secrets whose public keys come round soon, and the others. Of the first ones one signature is that of many messages, as few powers of e are unlike.
func soon() []uint64 {
	return slices.DeleteFunc(secrets(), func(s uint64) bool { return round(s) > 1<<30 })
}

func late() []uint64 {
	return slices.DeleteFunc(secrets(), func(s uint64) bool { return round(s) <= 1<<30 })
}

// few are some of the secrets.
func few() []uint64 { return []uint64{1, 2, 5, p - 2, 1234567890123456789} }

// someBytes are bytes by chance, the same ones for the same n and seed.
func someBytes(n int, seed int64) []byte {
	b := make([]byte, n)
	rand.New(rand.NewSource(seed<<20 + int64(n))).Read(b)
	return b
}

// messages are of no byte, of lengths about the sevens, and of many more; noughts, the greatest bytes and others.
func messages() [][]byte {
	l := [][]byte{nil, {}, []byte("a"), []byte("hello"), []byte("gr\u00fc\u00df dich")}
	for _, n := range []int{1, 2, 6, 7, 8, 13, 14, 15, 21, 22, 200, 777} {
		l = append(l, make([]byte, n), bytes.Repeat([]byte{255}, n), someBytes(n, 7))
	}
	return l
}

// takes holds a signature to be taken.
func takes(t *testing.T, what string, pub uint64, b []byte, s api.Sig) {
	t.Helper()
	if !sign.Check(pub, b, s) {
		t.Errorf("%s: Check(%d, %d, %d) is false", what, pub, b, s)
	}
}

// refuses holds a signature not to be taken.
func refuses(t *testing.T, what string, pub uint64, b []byte, s api.Sig) {
	t.Helper()
	if sign.Check(pub, b, s) {
		t.Errorf("%s: Check(%d, %d, %d) is true", what, pub, b, s)
	}
}

// P8.1: a public key is a power of 37.
func TestPub(t *testing.T) {
	if got := sign.Pub(p - 2); product(got, 37, p) != 1 {
		t.Errorf("Pub(P - 2), which is 1 times 37: %d", got)
	}
	step := uint64(1)
	for s := range uint64(300) {
		step = product(step, 37, p)
		if got := sign.Pub(s + 1); got != step {
			t.Errorf("Pub(%d): %d, and not %d", s+1, got, step)
		}
	}
	for _, s := range secrets() {
		if got := sign.Pub(s); got != power(37, s) {
			t.Errorf("Pub(%d): %d, and not %d", s, got, power(37, s))
		}
	}
}

// P8.1: the signatures of all secrets and messages, number by number.
func TestSign(t *testing.T) {
	for _, secret := range secrets() {
		for _, b := range messages() {
			if got, all := sign.Sign(secret, b), want(secret, b); got.R != all.R || got.S != all.S {
				t.Fatalf("Sign(%d, %d): %d, and not %d", secret, b, got, all)
			}
		}
	}
}

// P8.1, P8.2: of each number of bytes up to many.
func TestEachLength(t *testing.T) {
	for n := range 120 {
		b := someBytes(n, 1)
		if got, all := sign.Sign(5, b), want(5, b); got != all {
			t.Errorf("Sign(5, %d): %d, and not %d", b, got, all)
		}
		takes(t, "each length", power(37, 5), b, want(5, b))
	}
	long := someBytes(1<<18, 2)
	if got, all := sign.Sign(p-2, long), want(p-2, long); got != all {
		t.Errorf("%d bytes: %d, and not %d", len(long), got, all)
	}
	takes(t, "a long one", power(37, p-2), long, want(p-2, long))
}

// P8.1, P8.2: numbers that were worked out elsewhere.
func TestWrittenOut(t *testing.T) {
	for _, x := range []struct {
		secret, pub uint64
		b           string
		s           api.Sig
	}{
		{1, 37, "", api.Sig{R: 1776551214573845905, S: 1977566441283678276}},
		{2, 1369, "a", api.Sig{R: 112016635934476118, S: 431297996500265568}},
		{5, 69343957, "hello", api.Sig{R: 30163970378768113, S: 1773122753035945214}},
		{5, 69343957, "hello.", api.Sig{R: 1813353607119358470, S: 212584303952451552}},
		{p - 2, 2181202846553494278, "a text of fourt", api.Sig{R: 641095537685674448, S: 1950051632473468590}},
		{order / 2, p - 1, "\x00\x00\x00\x00\x00\x00\x00", api.Sig{R: 673193911646292130, S: 2105857955876214032}},
		{order / 3, 1669582390241348315, "\xff\xff\xff\xff\xff\xff\xff\xff", api.Sig{R: 1718126497582798512, S: 2238225685298779865}},
		{1234567890123456789, 1700144652873824586, "\x00\x01\x02\x03\x04\x05\x06\x07\x08\x09\x0a\x0b\x0c\x0d", api.Sig{R: 1557557195356107724, S: 80523447054670313}},
		{1 << 60, 2305843009213693914, "\x00\x00", api.Sig{R: 2024731485606267995, S: 1748442154437908982}},
	} {
		if got := sign.Pub(x.secret); got != x.pub {
			t.Errorf("Pub(%d): %d, and not %d", x.secret, got, x.pub)
		}
		if got := sign.Sign(x.secret, []byte(x.b)); got != x.s {
			t.Errorf("Sign(%d, %q): %d, and not %d", x.secret, x.b, got, x.s)
		}
		takes(t, "written", x.pub, []byte(x.b), x.s)
	}
}

// P8.1: S is reckoned exactly: from products far beyond a word, and modulo P - 1, which is not what P leads to.
func TestExactly(t *testing.T) {
	greater, otherwise := 0, 0
	for _, secret := range secrets() {
		for n := range 20 {
			b := someBytes(n, 3)
			m := message(b)
			once := 1 + sum("nonce", secret, m)%(p-2)
			e := asked(power(37, once), power(37, secret), m)
			got, all := sign.Sign(secret, b), answer(once, e, secret)
			if got.S != all {
				t.Errorf("Sign(%d, %d): S is %d, and not %d", secret, b, got.S, all)
			}
			if new(big.Int).Mul(new(big.Int).SetUint64(e), new(big.Int).SetUint64(secret)).BitLen() > 64 {
				greater++
			}
			if (once+product(e, secret, p))%p != all {
				otherwise++
			}
		}
	}
	if greater < 100 || otherwise < 100 {
		t.Errorf("%d products are beyond a word, %d are others modulo P", greater, otherwise)
	}
}

// P8.3: what is signed is that of the secret's own public key, and of no other secret's.
func TestOwnKey(t *testing.T) {
	for _, secret := range late() {
		for _, b := range [][]byte{nil, []byte("a"), []byte("hello"), someBytes(200, 4)} {
			s := sign.Sign(secret, b)
			for _, other := range secrets() {
				if other == secret {
					takes(t, "its own key", sign.Pub(other), b, s)
				} else {
					refuses(t, "another key", sign.Pub(other), b, s)
				}
			}
		}
	}
}

// P8.3: whatever is signed is taken, messages of all kinds.
func TestTaken(t *testing.T) {
	for _, secret := range secrets() {
		for _, b := range messages() {
			takes(t, "signed", sign.Pub(secret), b, sign.Sign(secret, b))
		}
	}
}

// P8.3: the same secret and bytes have one signature, whatever was signed and checked ahead of it; nil and nothing are the same bytes.
func TestOneSignature(t *testing.T) {
	for _, secret := range few() {
		for _, b := range messages() {
			first := sign.Sign(secret, b)
			sign.Sign(secret+1, b)
			sign.Sign(secret, append(slices.Clone(b), 0))
			sign.Check(sign.Pub(secret), b, first)
			sign.Check(1, b, api.Sig{})
			if again := sign.Sign(secret, slices.Clone(b)); again != first {
				t.Errorf("Sign(%d, %d): %d, and then %d", secret, b, first, again)
			}
			takes(t, "again", sign.Pub(secret), b, first)
		}
		nothing, none := sign.Sign(secret, []byte{}), sign.Sign(secret, nil)
		if nothing != none {
			t.Errorf("nothing is signed %d by %d, and nil %d", nothing, secret, none)
		}
		takes(t, "nil as nothing", sign.Pub(secret), []byte{}, none)
		takes(t, "nothing as nil", sign.Pub(secret), nil, nothing)
	}
}

// P8.2: signatures that Sign did not make are taken, whichever once they were made with.
func TestOtherOnce(t *testing.T) {
	for _, secret := range secrets() {
		for _, once := range append(secrets(), 0) { // a once of 0: R is 1
			for _, b := range [][]byte{nil, []byte("hello"), someBytes(14, 5)} {
				takes(t, "another once", power(37, secret), b, signedBy(secret, once, b))
			}
		}
	}
}

// P8.2: the least and the greatest numbers that a signature, and a public key, may have.
func TestEnds(t *testing.T) {
	for _, b := range messages() {
		// To the power of whatever e is, 1 is 1: S is the once alone.
		takes(t, "all the least", 1, b, api.Sig{R: 1, S: 0})
		takes(t, "the greatest S", 1, b, api.Sig{R: under(37), S: order - 1})
		takes(t, "the greatest R", 1, b, api.Sig{R: p - 1, S: order / 2})
		for _, once := range secrets() {
			takes(t, "the public key 1", 1, b, api.Sig{R: power(37, once), S: once})
		}
		// The secret (P - 1) / 2 has the greatest public key.
		for _, once := range append(secrets(), 0) {
			takes(t, "the greatest public key", p-1, b, signedBy(order/2, once, b))
		}
		for _, secret := range few() {
			takes(t, "R is 1", power(37, secret), b, signedBy(secret, 0, b))
			takes(t, "R is P - 1", power(37, secret), b, signedBy(secret, order/2, b))
		}
	}
}

// The chapter's examples.
func TestExamples(t *testing.T) {
	if got := sign.Pub(1); got != 37 {
		t.Errorf("Pub(1): %d", got)
	}
	if got := sign.Pub(2); got != 1369 {
		t.Errorf("Pub(2): %d", got)
	}
}

// behind is what stands in the spare room of what is handed in.
func behind() []byte { return bytes.Repeat([]byte{0xa5}, 40) }

// What is handed in is left as it was, its spare room too, where it is refused as well; what stands in the spare room is not signed.
func TestHandedIn(t *testing.T) {
	for _, secret := range few() {
		for _, was := range messages() {
			all := slices.Concat(was, behind())
			b := slices.Clone(all)[:len(was)]
			s := sign.Sign(secret, b)
			takes(t, "with room to spare", sign.Pub(secret), b, s)
			refuses(t, "with room to spare", sign.Pub(secret), b, api.Sig{R: s.R, S: (s.S + 1) % order})
			sign.Check(0, b, s)
			sign.Check(sign.Pub(secret), b, api.Sig{R: p, S: math.MaxUint64})
			if !bytes.Equal(b[:len(all)], all) {
				t.Errorf("%d became %d", all, b[:len(all)])
			}
			if s != want(secret, was) {
				t.Errorf("with room to spare, Sign(%d, %d): %d", secret, was, s)
			}
		}
	}
}

// What was told does not change with what was handed in.
func TestNotKept(t *testing.T) {
	for _, secret := range few() {
		b := []byte("some text")
		first := sign.Sign(secret, b)
		b[0]++
		refuses(t, "changed", sign.Pub(secret), b, first)
		if got := sign.Sign(secret, b); got != want(secret, []byte("tome text")) {
			t.Errorf("changed, Sign(%d, %d): %d", secret, b, got)
		}
		b[0]--
		takes(t, "changed back", sign.Pub(secret), b, first)
	}
}
