package pack

import "huddle/api"

// cursor goes along bytes, up to the first thing that is wrong.
type cursor struct {
	bytes []byte
	at    int
	wrong api.Errno
}

// read reads one thing as a whole, or nothing of it.
func read[T any](c *cursor, one func(*cursor) T) T {
	start := c.at
	thing := one(c)
	if c.wrong != api.OK {
		// A part of it may have been well formed, and gone along.
		c.at = start
		var none T
		return none
	}
	return thing
}

// left is how many bytes were not gone along.
func (c *cursor) left() int { return len(c.bytes) - c.at }

// fail notes what is wrong, if nothing was.
func (c *cursor) fail(wrong api.Errno) {
	if c.wrong == api.OK {
		c.wrong = wrong
	}
}

// take goes along n bytes, and is these; none, if there are not so many or something was wrong.
func (c *cursor) take(n int) []byte {
	if n > c.left() {
		c.fail(api.ErrShort)
	}
	if c.wrong != api.OK {
		return nil
	}
	c.at += n
	return c.bytes[c.at-n : c.at]
}

// sevens are the bits of a number, the lowest ones first.
func (c *cursor) sevens() uint64 {
	number := uint64(0)
	for shift := 0; ; shift += seven {
		next := c.take(1)
		if c.wrong != api.OK {
			return 0
		}
		needless, tooMuch := shift > 0 && next[0] == 0, shift == lastShift && next[0] > 1
		if needless || tooMuch {
			c.fail(api.ErrForm)
			return 0
		}
		number |= uint64(next[0]%more) << shift
		if next[0] < more {
			return number
		}
	}
}

// number is a number with its sign.
func (c *cursor) number() int { return signed(c.sevens()) }

// upTo is a number from 0 to most.
func (c *cursor) upTo(most int) int {
	n := c.number()
	if n < 0 || n > most {
		c.fail(api.ErrForm)
	}
	return n
}

// truth is 1 or 0, as a truth.
func (c *cursor) truth() bool { return c.upTo(1) == 1 }

// text is as many bytes as the number ahead of them says.
func (c *cursor) text() string {
	n := c.number()
	if n < 0 {
		c.fail(api.ErrForm)
	}
	return string(c.take(n))
}

// name is an operation's name.
func (c *cursor) name() api.Ident {
	by := c.number()
	seq := c.number()
	return api.Ident{By: by, Seq: seq, Sum: c.sevens()}
}

// unsigned is a number with its sign in the lowest bit, so that those near 0 are short on both sides.
func unsigned(n int) uint64 {
	if n < 0 {
		return uint64(^n)<<1 | 1
	}
	return uint64(n) << 1
}

// signed is the number whose sign stands in the lowest bit.
func signed(n uint64) int {
	if n%2 == 1 {
		return ^int(n >> 1)
	}
	return int(n >> 1)
}
