package ascii

import (
	"math"

	"pressmark/api"
	"pressmark/cursor"
)

// How many bytes a group is written of, and how many signs it is.
const (
	wide = 4
	long = 5
)

// The digits of base 85 are the signs from lowest to highest.
const (
	lowest  = '!'
	highest = 'u'
)

// groups reads digits of base 85 by groups.
type groups struct {
	reader
	n    int // what the digits of the group that was begun count
	many int // how many these are
}

// Base85 is b in digits of base 85, and their end.
func Base85(b []byte) []byte {
	c := cursor.New(b)
	var signs []byte
	for c.Left() >= wide {
		n, _ := c.Word(wide)
		if n == 0 {
			signs = append(signs, 'z')
			continue
		}
		group := groupOf(n)
		signs = append(signs, group[:]...)
	}
	if rest := c.Left(); rest > 0 {
		n, _ := c.Word(rest)
		group := groupOf(n << (8 * (wide - rest)))
		signs = append(signs, group[:rest+1]...)
	}
	return append(signs, "~>"...)
}

// groupOf is a group's signs.
func groupOf(n int) [long]byte {
	var group [long]byte
	for i := range group {
		group[long-1-i] = byte(lowest + n%85)
		n /= 85
	}
	return group
}

// Unbase85 is what the digits of b say, up to their end, of at most so many bytes.
func Unbase85(b []byte, most int) ([]byte, api.Errno) {
	g := &groups{reader: open(b, most)}
	if e := g.read(); e != api.OK {
		return nil, e
	}
	return g.came, api.OK
}

// read reads up to the end of the digits.
func (g *groups) read() api.Errno {
	for c := g.sign(); c != '~'; c = g.sign() {
		if e := g.digit(c); e != api.OK {
			return e
		}
	}
	// Done at the end's first sign: what is wrong with it counts ahead of what stands behind.
	if e := g.last(); e != api.OK {
		return e
	}
	switch g.sign() {
	case -1:
		return api.ErrShort
	case '>':
		return api.OK
	}
	return api.ErrForm
}

// digit takes a sign, or -1, as the next digit, or as a group of noughts.
func (g *groups) digit(c int) api.Errno {
	switch {
	case c < 0:
		return api.ErrShort
	case c == 'z' && g.many == 0:
		return g.put(0, 0, 0, 0)
	case c < lowest || c > highest:
		return api.ErrForm
	}
	g.add(c)
	if g.many == long {
		return g.done(wide)
	}
	return api.OK
}

// last does the group that was begun, if there is one, as if the highest digits stood behind it.
func (g *groups) last() api.Errno {
	many := g.many
	switch many {
	case 0:
		return api.OK
	case 1:
		return api.ErrForm
	}
	for g.many < long {
		g.add(highest)
	}
	return g.done(many - 1)
}

// add takes a sign as the next digit of a group.
func (g *groups) add(c int) {
	g.n = g.n*85 + c - lowest
	g.many++
}

// done lets the first bytes of a whole group come, and begins the next one.
func (g *groups) done(bytes int) api.Errno {
	n := g.n
	g.n, g.many = 0, 0
	if n > math.MaxUint32 {
		return api.ErrForm
	}
	group := [wide]byte{byte(n >> 24), byte(n >> 16), byte(n >> 8), byte(n)}
	return g.put(group[:bytes]...)
}
