package box_test

import (
	"math/big"
	"math/rand"
	"testing"

	"huddle/api"
	"huddle/box"
)

const p = api.P

// power is a number raised to another one, by big integers.
func power(a, n uint64) uint64 {
	base, times := new(big.Int).SetUint64(a), new(big.Int).SetUint64(n)
	return base.Exp(base, times, big.NewInt(p)).Uint64()
}

// times is a product, by big integers.
func times(a, b uint64) uint64 {
	product := new(big.Int).SetUint64(a)
	product.Mul(product, new(big.Int).SetUint64(b))
	return product.Mod(product, big.NewInt(p)).Uint64()
}

// less is a difference of field numbers.
func less(a, b uint64) uint64 { return (a + p - b) % p }

// sum is chapter 2's Of, of a label of at most 7 bytes, by big integers.
func sum(label string, l ...uint64) uint64 {
	word := uint64(0)
	for i := len(label) - 1; i >= 0; i-- {
		word = word*256 + uint64(label[i])
	}
	row := append(append([]uint64{word, uint64(len(l))}, l...), 0)
	s, prime := big.NewInt(int64(len(label))), big.NewInt(p)
	for i, n := range row {
		s.Mul(s, big.NewInt(37))
		s.Add(s, new(big.Int).SetUint64(n))
		s.Add(s, big.NewInt(int64(i+1)))
		s.Exp(s, big.NewInt(17), prime)
	}
	return s.Uint64()
}

// want is a box, from the key that it is sealed with.
func want(to, eph, key, v uint64) api.Box {
	body := (v + sum("mask", key)) % p
	return api.Box{To: to, Eph: eph, Body: body, Tag: sum("tag", key, body, to)}
}

// secrets are those at both ends of what they may be, some that have a divisor with P - 1, and others.
func secrets() []uint64 {
	l := []uint64{1, 2, 3, 5, 6, 7, 1 << 20, 1 << 60, 1<<60 + 1, (p - 1) / 2, (p - 1) / 3, (p-1)/2 + 1, p - 4, p - 3, p - 2}
	chance := rand.New(rand.NewSource(6))
	for range 8 {
		l = append(l, 1+chance.Uint64()%(p-2))
	}
	return l
}

// values are field numbers: both ends, and others.
func values() []uint64 {
	l := []uint64{0, 1, 2, 9, 1 << 32, 1 << 60, p - 2, p - 1}
	chance := rand.New(rand.NewSource(7))
	for range 4 {
		l = append(l, chance.Uint64()%p)
	}
	return l
}

// others are field numbers that are not the one that is said: its neighbours, those of which one bit differs, both ends, and some.
func others(n uint64) []uint64 {
	l := []uint64{}
	add := func(a uint64) {
		if a < p && a != n {
			l = append(l, a)
		}
	}
	for _, a := range append(values(), (n+1)%p, (n+p-1)%p, (p-n)%p) {
		add(a)
	}
	for bit := range 61 {
		add(n ^ 1<<bit)
	}
	return l
}

// shut holds an answer of Open to be an error, with no number beside it.
func shut(t *testing.T, what string, secret uint64, b api.Box, e api.Errno) {
	t.Helper()
	if v, got := box.Open(secret, b); got != e || v != 0 {
		t.Errorf("%s: Open(%d, %d): %d, %v, and not 0, %v", what, secret, b, v, got, e)
	}
}

// opens holds an answer of Open to be a number.
func opens(t *testing.T, what string, secret uint64, b api.Box, v uint64) {
	t.Helper()
	if got, e := box.Open(secret, b); e != api.OK || got != v {
		t.Errorf("%s: Open(%d, %d): %d, %v, and not %d", what, secret, b, got, e, v)
	}
}

// P6.1: a public key is a power of 37.
func TestPub(t *testing.T) {
	if got := box.Pub(1); got != 37 {
		t.Errorf("Pub(1): %d", got)
	}
	if got := box.Pub(p - 2); times(got, 37) != 1 {
		t.Errorf("Pub(P - 2), which is 1 times 37: %d", got)
	}
	step := uint64(1)
	for s := range uint64(300) {
		step = times(step, 37)
		if got := box.Pub(s + 1); got != step {
			t.Errorf("Pub(%d): %d, and not %d", s+1, got, step)
		}
	}
	for _, s := range secrets() {
		if got := box.Pub(s); got != power(37, s) {
			t.Errorf("Pub(%d): %d, and not %d", s, got, power(37, s))
		}
	}
}

// P6.1: what is made, field by field, for public keys and for other numbers of the field.
func TestMake(t *testing.T) {
	keys := values()
	for _, s := range secrets() {
		keys = append(keys, power(37, s))
	}
	for _, to := range keys {
		for _, once := range secrets() {
			for _, v := range values() {
				got, b := box.Make(to, once, v), want(to, power(37, once), power(to, once), v)
				if got.To != b.To || got.Eph != b.Eph || got.Body != b.Body || got.Tag != b.Tag {
					t.Fatalf("Make(%d, %d, %d): %d, and not %d", to, once, v, got, b)
				}
			}
		}
	}
}

// P6.1, P6.2: numbers that are written out, so that nothing which is reckoned here can go wrong with the program.
func TestWritten(t *testing.T) {
	b := api.Box{To: 69343957, Eph: 94931877133, Body: 475371420863693712, Tag: 1821392995659715508}
	if got := box.Make(box.Pub(5), 7, 9); got != b {
		t.Errorf("made: %d, and not %d", got, b)
	}
	opens(t, "written", 5, b, 9)
}

// P6.2: a box is opened whoever made it: any Eph has a key, 0 too.
func TestOpen(t *testing.T) {
	for _, s := range secrets() {
		to := power(37, s)
		for _, eph := range values() {
			for _, v := range values() {
				opens(t, "any Eph", s, want(to, eph, power(eph, s), v), v)
			}
		}
		for _, body := range values() {
			key := power(5, s)
			b := api.Box{To: to, Eph: 5, Body: body, Tag: sum("tag", key, body, to)}
			opens(t, "any Body", s, b, less(body, sum("mask", key)))
		}
	}
}

// P6.2: where To is not the secret's, that is told, whatever else is wrong.
func TestFirstError(t *testing.T) {
	for _, s := range secrets() {
		b := box.Make(box.Pub(s), 11, 9)
		for _, to := range others(b.To) {
			turned := b
			turned.To = to
			shut(t, "another To", s, turned, api.ErrKey)
			turned.Tag = (b.Tag + 1) % p
			shut(t, "another To and Tag", s, turned, api.ErrKey)
			turned.Body, turned.Eph = (b.Body+1)%p, (b.Eph+1)%p
			shut(t, "all other ones", s, turned, api.ErrKey)
			// Its Tag is right for that To: still it is not for this secret.
			shut(t, "all right for another To", s, want(to, b.Eph, power(b.Eph, s), 9), api.ErrKey)
		}
		shut(t, "nothing in it", s, api.Box{}, api.ErrKey)
		shut(t, "To alone", s, api.Box{To: b.To}, api.ErrTag)
	}
}

// P6.3: what was made for a public key is opened by its secret, whichever once it was made with.
func TestOwnSecret(t *testing.T) {
	for _, s := range secrets() {
		for _, once := range secrets() {
			for _, v := range values() {
				opens(t, "made", s, box.Make(box.Pub(s), once, v), v)
			}
		}
	}
}

// P6.3: the key is the same from both ends, so that a box and one for its Eph, made turned round, hide one number by one mask.
func TestBothEnds(t *testing.T) {
	for _, s := range secrets() {
		for _, once := range secrets() {
			a, b := box.Make(box.Pub(s), once, 9), box.Make(box.Pub(once), s, 9)
			if a.To != b.Eph || a.Eph != b.To || a.Body != b.Body {
				t.Errorf("secrets %d and %d: %d and %d", s, once, a, b)
			}
		}
	}
}

// P6.4: a box whose Body, or Tag, or both are other ones is ErrTag.
func TestTurned(t *testing.T) {
	for _, s := range secrets() {
		for _, v := range []uint64{0, 9, p - 1} {
			b := box.Make(box.Pub(s), 11, v)
			for _, body := range others(b.Body) {
				shut(t, "another Body", s, api.Box{To: b.To, Eph: b.Eph, Body: body, Tag: b.Tag}, api.ErrTag)
				shut(t, "another Body and Tag", s, api.Box{To: b.To, Eph: b.Eph, Body: body, Tag: (b.Tag + 1) % p}, api.ErrTag)
			}
			for _, tag := range others(b.Tag) {
				shut(t, "another Tag", s, api.Box{To: b.To, Eph: b.Eph, Body: b.Body, Tag: tag}, api.ErrTag)
			}
		}
	}
}

// P6.4: parts of unlike boxes for one key are no box.
func TestMixed(t *testing.T) {
	for _, s := range secrets() {
		a, b := box.Make(box.Pub(s), 11, 9), box.Make(box.Pub(s), 12, 9)
		shut(t, "Body of another one", s, api.Box{To: a.To, Eph: a.Eph, Body: b.Body, Tag: a.Tag}, api.ErrTag)
		shut(t, "Tag of another one", s, api.Box{To: a.To, Eph: a.Eph, Body: a.Body, Tag: b.Tag}, api.ErrTag)
		c := box.Make(box.Pub(s), 11, 10)
		shut(t, "Body of another number", s, api.Box{To: a.To, Eph: a.Eph, Body: c.Body, Tag: a.Tag}, api.ErrTag)
		shut(t, "Tag of another number", s, api.Box{To: a.To, Eph: a.Eph, Body: a.Body, Tag: c.Tag}, api.ErrTag)
	}
}

// P6.4: a box of which Eph is another one is ErrTag; where that leads to the same key, it is the same number.
func TestOtherEph(t *testing.T) {
	same, not := 0, 0
	for _, s := range secrets() {
		for _, v := range []uint64{0, 9, p - 1} {
			b := box.Make(box.Pub(s), 11, v)
			for _, eph := range others(b.Eph) {
				turned := b
				turned.Eph = eph
				if power(eph, s) == power(b.Eph, s) {
					opens(t, "another Eph of that key", s, turned, v)
					same++
				} else {
					shut(t, "another Eph", s, turned, api.ErrTag)
					not++
				}
			}
		}
	}
	if same == 0 || not == 0 {
		t.Errorf("of other ones %d lead to the same key, %d do not", same, not)
	}
}

// P6.4: by another secret, of another public key, a box is ErrKey.
func TestOtherSecret(t *testing.T) {
	for _, s := range secrets() {
		b := box.Make(box.Pub(s), 11, 9)
		for _, other := range secrets() {
			if power(37, other) != b.To {
				shut(t, "another secret", other, b, api.ErrKey)
			}
		}
		// Not even who made it opens it.
		shut(t, "the one used once", 11, b, api.ErrKey)
	}
}

// P6.4: public keys of secrets that are added are multiplied.
func TestSum(t *testing.T) {
	for _, a := range secrets() {
		for _, b := range secrets() {
			// Powers are the same modulo P - 1, where a sum of 0 is no secret.
			if c := (a + b) % (p - 1); c > 0 && box.Pub(c) != times(box.Pub(a), box.Pub(b)) {
				t.Errorf("Pub(%d + %d): %d", a, b, box.Pub(c))
			}
		}
	}
}

// The chapter's examples.
func TestExamples(t *testing.T) {
	for _, once := range secrets() {
		b := box.Make(box.Pub(5), once, 9)
		opens(t, "example", 5, b, 9)
		shut(t, "example", 6, b, api.ErrKey)
	}
}

// A box that is handed in is left as it was, and what is told hangs on nothing else than what is handed in.
func TestHandedIn(t *testing.T) {
	for _, s := range secrets() {
		b := box.Make(box.Pub(s), 11, 9)
		turned, strange := b, b
		turned.Tag, strange.To = (b.Tag+1)%p, (b.To+1)%p
		for _, one := range []api.Box{b, turned, strange} {
			was := one
			v, e := box.Open(s, one)
			box.Make(box.Pub(s), 12, 10)
			again, same := box.Open(s, one)
			if one != was {
				t.Errorf("%d became %d", was, one)
			}
			if v != again || e != same {
				t.Errorf("%d, %v, and then %d, %v", v, e, again, same)
			}
		}
		if again := box.Make(box.Pub(s), 11, 9); again != b {
			t.Errorf("made again: %d, and not %d", again, b)
		}
	}
}
