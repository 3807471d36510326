package sign_test

import (
	"math/big"
	"testing"

	"huddle/api"
	"huddle/sign"
)

// root is the number whose power of 17 is the one that is said. (17 has no divisor with P - 1.)
func root(n uint64) uint64 {
	return power(n, new(big.Int).ModInverse(big.NewInt(17), big.NewInt(order)).Uint64())
}

// less is a difference, modulo P.
func less(a, b uint64) uint64 { return (a + p - b%p) % p }

// ahead is the state that becomes the one that is said by a word, the k-th one.
func ahead(s, word, k uint64) uint64 { return product(less(root(s), word+k), under(37), p) }

// between is the word, the k-th one, by which one state becomes another one.
func between(from, to, k uint64) uint64 { return less(root(to), product(37, from, p)+k) }

// asking are 14 bytes of which the e is the one that is said, with an R and a public key.
func asking(t *testing.T, r, pub, e uint64) []byte {
	t.Helper()
	// The words of e's sum: the label, 3 numbers, these, and 0.
	m := between(state(3, wordsOf([]byte("sig"))[0], 3, r, pub), ahead(e, 0, 6), 5)
	// Those of the bytes' sum: the label, 3 numbers, 2 words, how many bytes, and 0. The second word has to be one of 7 bytes, which one in 32 is.
	end := ahead(ahead(m, 0, 6), 14, 5)
	for first := range uint64(2000) {
		if second := between(state(6, wordsOf([]byte("signed"))[0], 3, first), end, 4); second < 1<<56 {
			b := make([]byte, 14)
			for i := range 7 {
				b[i], b[7+i] = byte(first>>(8*i)), byte(second>>(8*i))
			}
			if got := asked(r, pub, message(b)); got != e {
				t.Fatalf("e of %d, %d, %d is %d, and not %d", r, pub, b, got, e)
			}
			return b
		}
	}
	t.Fatalf("nothing asks %d of %d, %d", e, r, pub)
	return nil
}

// P8.2: both ends of what e may be: where e is 0, or P - 1, which is the same power, R is the power of S alone, and the public key must still be one.
func TestAskedEnds(t *testing.T) {
	for _, secret := range secrets() {
		pub := power(37, secret)
		for _, once := range []uint64{0, 1, 5, order / 2, order - 1, 1234567890123456789} {
			r := power(37, once)
			for _, e := range []uint64{0, 1, 2, p - 2, p - 1} {
				b := asking(t, r, pub, e)
				s := answer(once, e, secret)
				takes(t, "e of an end", pub, b, api.Sig{R: r, S: s})
				for _, other := range []uint64{(s + 1) % order, (s + order - 1) % order, (s + order/2) % order} {
					refuses(t, "e of an end, another S", pub, b, api.Sig{R: r, S: other})
				}
				refuses(t, "e of an end, S and P - 1", pub, b, api.Sig{R: r, S: s + order})
			}
		}
	}
}

// P8.2: S of both ends, for any public key: it is the e that is chosen to suit it.
func TestAnswersOfEnds(t *testing.T) {
	for _, secret := range late() {
		pub := power(37, secret)
		for _, e := range []uint64{1, 7, 1234567890123456789, p - 2} {
			for _, s := range []uint64{0, 1, order - 2, order - 1} {
				r := product(power(37, s), under(power(pub, e)), p)
				b := asking(t, r, pub, e)
				takes(t, "S of an end", pub, b, api.Sig{R: r, S: s})
				refuses(t, "S of an end, and P - 1", pub, b, api.Sig{R: r, S: s + order})
				refuses(t, "S of an end, but one more", pub, b, api.Sig{R: r, S: (s + 1) % order})
				refuses(t, "S of an end, but one less", pub, b, api.Sig{R: r, S: (s + order - 1) % order})
			}
		}
	}
}

// P8.2: a public key of 0, to the power of 0, is 1: so it would be right if it were allowed.
func TestNoPub(t *testing.T) {
	for _, once := range []uint64{0, 1, 5, order / 2, order - 1, 1234567890123456789} {
		s := api.Sig{R: power(37, once), S: once}
		b := asking(t, s.R, 0, 0)
		for _, pub := range []uint64{0, p, 2 * p, 8 * p} {
			if !meets(pub, b, s) {
				t.Errorf("%d of %d, by %d, does not meet the reckoning", s, b, pub)
			}
			refuses(t, "a public key of 0", pub, b, s)
		}
	}
	// And R of 0 is no power, whatever e is.
	for _, pub := range []uint64{1, 37, p - 1} {
		for _, e := range []uint64{0, 1, p - 1} {
			for _, s := range []uint64{0, 1, order - 1} {
				refuses(t, "R of 0", pub, asking(t, 0, pub, e), api.Sig{R: 0, S: s})
			}
		}
	}
}

// P8.4: of one R, public key and e there is one S, whatever the bytes are: another message of the same e has the same one.
func TestSameAsked(t *testing.T) {
	secret, once := uint64(5), uint64(1234567890123456789)
	r, pub := power(37, once), power(37, 5)
	for _, e := range []uint64{0, 1, 1234567, p - 2} {
		b := asking(t, r, pub, e)
		s := api.Sig{R: r, S: answer(once, e, secret)}
		takes(t, "asked that", pub, b, s)
		refuses(t, "asked one more", pub, asking(t, r, pub, (e+1)%p), s)
		if own := sign.Sign(secret, b); own == s {
			t.Errorf("Sign(%d, %d) has the once of another one", secret, b)
		}
	}
}
