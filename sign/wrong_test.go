package sign_test

import (
	"math"
	"math/rand"
	"slices"
	"testing"

	"huddle/api"
	"huddle/sign"
)

// above are a number and a modulus, some times, together, as far as a word has room.
func above(n, modulus uint64) []uint64 {
	l := []uint64{}
	for more := modulus; n <= math.MaxUint64-more; more += modulus {
		l = append(l, n+more)
		if more > math.MaxUint64-modulus {
			break
		}
	}
	return l
}

// beyond are numbers from a modulus on: the first ones, some within, the last ones.
func beyond(modulus uint64) []uint64 {
	l := []uint64{modulus, modulus + 1, modulus + 5, 2*modulus - 1, 2 * modulus, 2*modulus + 1, 1 << 62, 1 << 63, math.MaxUint64 - 1, math.MaxUint64}
	return append(l, above(0, modulus)...)
}

// others are numbers below a modulus that are not the one that is said: its neighbours, those of which one bit differs, both ends, and some.
func others(n, modulus uint64) []uint64 {
	l := []uint64{}
	add := func(a uint64) {
		if a < modulus && a != n {
			l = append(l, a)
		}
	}
	for _, a := range []uint64{0, 1, 2, 37, modulus - 2, modulus - 1, (n + 1) % modulus, (n + modulus - 1) % modulus, (modulus - n) % modulus, (n + modulus/2) % modulus, (n + modulus/3) % modulus} {
		add(a)
	}
	for bit := range 61 {
		add(n ^ 1<<bit)
	}
	chance := rand.New(rand.NewSource(9))
	for range 8 {
		add(chance.Uint64() % modulus)
	}
	return l
}

// P8.2: a public key of 0, or of P and more, is refused, where it is the right one modulo P too.
func TestWrongPub(t *testing.T) {
	for _, b := range [][]byte{nil, []byte("a"), someBytes(14, 1)} {
		for _, secret := range secrets() {
			s, pub := want(secret, b), power(37, secret)
			takes(t, "right", pub, b, s)
			for _, wrong := range slices.Concat([]uint64{0}, beyond(p), above(pub, p)) {
				refuses(t, "a wrong public key", wrong, b, s)
			}
		}
		for _, pub := range above(1, p) {
			if s := (api.Sig{R: 37, S: 1}); !meets(pub, b, s) {
				t.Errorf("%d does not meet the reckoning", pub)
			} else {
				refuses(t, "1 modulo P", pub, b, s)
			}
		}
		// With a public key of 0 nothing hangs on S any more.
		for _, r := range []uint64{0, 1, 37, p - 1, p} {
			for _, s := range []uint64{0, 1, order / 2, order - 1} {
				for _, pub := range append(above(0, p), 0) {
					refuses(t, "0 modulo P", pub, b, api.Sig{R: r, S: s})
				}
			}
		}
	}
}

// P8.2: an R of 0, or of P and more, is refused, where it is the right one modulo P too.
func TestWrongR(t *testing.T) {
	for _, b := range [][]byte{nil, []byte("a"), someBytes(14, 2)} {
		for _, secret := range secrets() {
			pub := power(37, secret)
			for _, once := range []uint64{0, 1, 2, order / 2, 1234567890123456789} { // R of 1 and of 37 have room for P, 8 and 7 times
				s := signedBy(secret, once, b)
				takes(t, "right", pub, b, s)
				for _, r := range above(s.R, p) {
					if wrong := (api.Sig{R: r, S: s.S}); !meets(pub, b, wrong) {
						t.Errorf("%d does not meet the reckoning", wrong)
					} else {
						refuses(t, "the right R modulo P", pub, b, wrong)
					}
				}
				for _, r := range append(beyond(p), 0) {
					if r != s.R {
						refuses(t, "a wrong R", pub, b, api.Sig{R: r, S: s.S})
						refuses(t, "a wrong R, S is 0", pub, b, api.Sig{R: r, S: 0})
					}
				}
			}
		}
	}
}

// P8.2: an S of P - 1 and more is refused, where it is the right one modulo P - 1 too.
func TestWrongS(t *testing.T) {
	for _, b := range [][]byte{nil, []byte("a"), someBytes(14, 3)} {
		for _, secret := range secrets() {
			pub, s := power(37, secret), want(secret, b)
			for _, more := range above(s.S, order) {
				if wrong := (api.Sig{R: s.R, S: more}); !meets(pub, b, wrong) {
					t.Errorf("%d does not meet the reckoning", wrong)
				} else {
					refuses(t, "the right S modulo P - 1", pub, b, wrong)
				}
			}
			for _, wrong := range beyond(order) {
				refuses(t, "a wrong S", pub, b, api.Sig{R: s.R, S: wrong})
			}
		}
		// To the power of P - 1, and of 0, it is 1: so an S of P - 1 would be right if it were allowed.
		takes(t, "S is 0", 1, b, api.Sig{R: 1, S: 0})
		for _, wrong := range above(0, order) {
			refuses(t, "0 modulo P - 1", 1, b, api.Sig{R: 1, S: wrong})
		}
	}
}

// P8.2: where several numbers may not be, it is refused too.
func TestAllWrong(t *testing.T) {
	for _, pub := range append(beyond(p), 0) {
		for _, r := range append(beyond(p), 0) {
			for _, s := range append(beyond(order), 0) {
				refuses(t, "wrong", pub, nil, api.Sig{R: r, S: s})
			}
		}
	}
}

// P8.4: each S but one of a public key, R and bytes is refused.
func TestOneS(t *testing.T) {
	for _, secret := range secrets() {
		pub := power(37, secret)
		for _, b := range [][]byte{nil, []byte("hello"), someBytes(15, 4)} {
			s := want(secret, b)
			takes(t, "the one", pub, b, s)
			for _, other := range others(s.S, order) {
				refuses(t, "another S", pub, b, api.Sig{R: s.R, S: other})
			}
		}
	}
	// Powers of 37 come round after P - 1 times, and not ahead of that: that is why there is one S. (These are all primes that divide P - 1.)
	rest := uint64(order)
	for _, q := range []uint64{2, 3, 5, 7, 11, 13, 31, 41, 61, 151, 331, 1321} {
		for rest%q == 0 {
			rest /= q
		}
		if power(37, order/q) == 1 {
			t.Errorf("37 to the power of (P - 1) / %d is 1", q)
		}
		for times := range q - 1 { // a power of this many parts is 1 only with all of them
			refuses(t, "an S some part of the way round", 1, nil, api.Sig{R: 1, S: (times + 1) * (order / q)})
		}
	}
	if rest != 1 {
		t.Errorf("%d of P - 1 is left", rest)
	}
}

// P8.4: another R with the same S is refused.
func TestOtherR(t *testing.T) {
	for _, secret := range late() {
		pub := power(37, secret)
		for _, b := range [][]byte{nil, []byte("hello"), someBytes(15, 5)} {
			s := want(secret, b)
			for _, r := range others(s.R, p) {
				refuses(t, "another R", pub, b, api.Sig{R: r, S: s.S})
			}
			for _, by := range []uint64{2, 37, power(37, order/2), power(37, order/3), power(37, order/1321)} {
				refuses(t, "R times something", pub, b, api.Sig{R: product(s.R, by, p), S: s.S})
				// Both turned alike would be right if e did not hang on R.
				refuses(t, "R and S turned alike", pub, b, api.Sig{R: product(s.R, 37, p), S: (s.S + 1) % order})
			}
			refuses(t, "R and S the other way round", pub, b, api.Sig{R: s.S, S: s.R})
			refuses(t, "none", pub, b, api.Sig{})
		}
	}
}

// P8.4: another public key with the same signature is refused.
func TestOtherPub(t *testing.T) {
	for _, secret := range late() {
		pub := power(37, secret)
		for _, b := range [][]byte{nil, []byte("hello"), someBytes(15, 6)} {
			s := want(secret, b)
			for _, other := range others(pub, p) {
				refuses(t, "another public key", other, b, s)
			}
		}
	}
}

// P8.4: another public key whose power of e is the same is refused: e hangs on the public key, too.
func TestOtherPubOfThatPower(t *testing.T) {
	met := 0
	for _, secret := range late() {
		pub := power(37, secret)
		for n := range 30 {
			b := someBytes(n, 7)
			s := want(secret, b)
			e := asked(s.R, pub, message(b))
			for _, q := range []uint64{2, 3, 5, 7, 11, 13} {
				other := product(pub, power(37, order/q), p)
				if power(other, e) == power(pub, e) {
					refuses(t, "another public key of that power", other, b, s)
					met++
				}
			}
		}
	}
	if met < 100 {
		t.Errorf("only %d other public keys have the same power", met)
	}
}

// P8.2: what meets the reckoning with any other e is refused: S is chosen first, and R made to suit it.
func TestForged(t *testing.T) {
	for _, secret := range late() {
		pub := power(37, secret)
		for _, b := range [][]byte{nil, []byte("hello"), someBytes(15, 8)} {
			m := message(b)
			for _, e := range []uint64{0, 1, 2, m, sum("sig", pub, m), sum("sig", m), sum("sig", 0, pub, m), sum("sig", pub, pub, m)} {
				for _, s := range []uint64{0, 1, 1234567890123456789, order - 1} {
					// 37 to the power of s is r times pub to the power of e.
					r := product(power(37, s), under(power(pub, e)), p)
					if meets(pub, b, api.Sig{R: r, S: s}) {
						t.Fatalf("e of %d is %d", r, e)
					}
					refuses(t, "forged", pub, b, api.Sig{R: r, S: s})
				}
			}
		}
	}
}

// P8.2: whoever has the secret, but reckons e of other things, or in another row, or under another label, has no signature.
func TestOtherE(t *testing.T) {
	for _, secret := range late() {
		pub, b, once := power(37, secret), []byte("hello"), uint64(1234567890123456789)
		m, r := message(b), power(37, once)
		takes(t, "the right e", pub, b, api.Sig{R: r, S: answer(once, sum("sig", r, pub, m), secret)})
		for _, e := range []uint64{
			sum("sig", pub, r, m), sum("sig", m, pub, r), sum("sig", r, m, pub), sum("sig", r, m), sum("sig", r, pub), sum("sig", pub, m), sum("sig", r),
			sum("sig", r, pub, m, 0), sum("tag", r, pub, m), sum("sigs", r, pub, m), sum("sig", r, secret, m), sum("sig", once, pub, m),
			sum("sig", r, pub, sum("sign", append(wordsOf(b), uint64(len(b)))...)), sum("sig", r, pub, sum("signed", wordsOf(b)...)),
			sum("sig", r, pub, m) + 1, sum("sig", r, pub, m) - 1, p - sum("sig", r, pub, m),
		} {
			refuses(t, "another e", pub, b, api.Sig{R: r, S: answer(once, e, secret)})
		}
		e := asked(r, pub, m)
		for _, s := range []uint64{once, answer(0, e, secret), answer(once, e, secret+1), answer(once+1, e, secret), answer(once, order-e%order, secret), (once + product(e, secret, p)) % p} {
			if s != answer(once, e, secret) { // modulo P it is the same number, where the secret is 1
				refuses(t, "answered otherwise", pub, b, api.Sig{R: r, S: s})
			}
		}
	}
}

// P8.2: bytes with one byte another one, with one more, or with one less are not what was signed.
func TestOtherBytes(t *testing.T) {
	for _, secret := range few() {
		pub := power(37, secret)
		for _, n := range []int{0, 1, 6, 7, 8, 13, 14, 15, 30} {
			for _, b := range [][]byte{make([]byte, n), someBytes(n, 10)} {
				s := want(secret, b)
				for at := range b {
					for _, by := range []byte{1, 2, 4, 8, 16, 32, 64, 128, 255, 0x77} {
						other := slices.Clone(b)
						other[at] ^= by
						refuses(t, "another byte", pub, other, s)
					}
					refuses(t, "one less", pub, slices.Delete(slices.Clone(b), at, at+1), s)
					refuses(t, "the first alone", pub, b[:at], s)
				}
				for at := range n + 1 {
					for _, more := range []byte{0, 1, 255} {
						refuses(t, "one more", pub, slices.Insert(slices.Clone(b), at, more), s)
					}
				}
				if n > 0 {
					refuses(t, "nothing", pub, nil, s)
				}
			}
		}
	}
}

// P8.2: each byte of a message that is any other one is told.
func TestEachOtherByte(t *testing.T) {
	b := []byte("some text of words")
	for _, secret := range []uint64{2, p - 2} {
		s := want(secret, b)
		for at := range b {
			for by := 1; by < 256; by++ {
				other := slices.Clone(b)
				other[at] ^= byte(by)
				refuses(t, "another byte", power(37, secret), other, s)
			}
		}
	}
}

// P8.3, P8.4: parts of unlike signatures are none, and no signature is another message's.
func TestMixed(t *testing.T) {
	for _, secret := range few() {
		pub := sign.Pub(secret)
		a, b := sign.Sign(secret, []byte("a")), sign.Sign(secret, []byte("b"))
		if a.R == b.R {
			t.Errorf("two messages have one once, by %d", secret)
		}
		refuses(t, "another message's", pub, []byte("b"), a)
		refuses(t, "another one's S", pub, []byte("a"), api.Sig{R: a.R, S: b.S})
		refuses(t, "another one's R", pub, []byte("a"), api.Sig{R: b.R, S: a.S})
		c := sign.Sign(secret+1, []byte("a"))
		if a.R == c.R {
			t.Errorf("the secrets %d and one more have one once", secret)
		}
		refuses(t, "another secret's S", pub, []byte("a"), api.Sig{R: a.R, S: c.S})
		refuses(t, "another secret's R", pub, []byte("a"), api.Sig{R: c.R, S: a.S})
	}
}

// P8.2: of a public key that comes round soon, Check takes just what meets the reckoning: for such a one other messages, and other numbers, often do.
func TestComesRoundSoon(t *testing.T) {
	taken, refused := 0, 0
	agrees := func(pub uint64, b []byte, s api.Sig) {
		t.Helper()
		if meets(pub, b, s) {
			takes(t, "it meets the reckoning", pub, b, s)
			taken++
		} else {
			refuses(t, "it does not meet the reckoning", pub, b, s)
			refused++
		}
	}
	for _, secret := range soon() {
		pub := power(37, secret)
		for _, b := range messages() {
			s := want(secret, b)
			for _, other := range messages() {
				agrees(pub, other, s)
			}
			for _, by := range []uint64{pub, under(pub), 37, p - 1} {
				agrees(pub, b, api.Sig{R: product(s.R, by, p), S: s.S})
				agrees(pub, b, api.Sig{R: product(s.R, 37, p), S: (s.S + 1) % order})
				agrees(product(pub, by, p), b, s)
			}
			agrees(1, b, s)
			agrees(p-1, b, s)
		}
	}
	if taken < 1000 || refused < 1000 {
		t.Errorf("%d are taken, %d are refused", taken, refused)
	}
}
