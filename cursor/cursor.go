// Package cursor is a place in bytes, which each reader embeds: see DOC.md, chapter 1.
package cursor

import (
	"bytes"
	"slices"
)

// widest is the greatest width of a Word: of 8 bytes not every number is an int.
const widest = 7

// Cursor stands at a place of its bytes, from 0 to their number. Its zero value stands in no bytes.
type Cursor struct {
	b  []byte
	at int
}

// New is a cursor at the beginning of b, which it looks at, and does not change.
func New(b []byte) *Cursor { return &Cursor{b: b} }

// Pos is where it stands.
func (c *Cursor) Pos() int {
	if c == nil {
		return 0
	}
	return c.at
}

// Len is how many bytes there are in all.
func (c *Cursor) Len() int {
	if c == nil {
		return 0
	}
	return len(c.b)
}

// Left is how many bytes are left.
func (c *Cursor) Left() int { return c.Len() - c.Pos() }

// Peek is the byte i places on (behind, if i is below 0), or -1, where there is none.
func (c *Cursor) Peek(i int) int {
	// i is held against what is there, not added first: a sum could wrap round.
	if i < -c.Pos() || i >= c.Left() {
		return -1
	}
	return int(c.b[c.at+i])
}

// Next is the byte where it stands, which it passes, or -1 at the end.
func (c *Cursor) Next() int {
	n := c.Peek(0)
	if n >= 0 {
		c.at++
	}
	return n
}

// Seek goes to a place from 0 to Len; at another one it answers false and stays.
func (c *Cursor) Seek(at int) bool {
	if c == nil || at < 0 || at > c.Len() {
		return false
	}
	c.at = at
	return true
}

// Take is a copy of the next n bytes, which it passes; false, and it stays, if there are not so many.
func (c *Cursor) Take(n int) ([]byte, bool) {
	if c == nil || n < 0 || n > c.Left() {
		return nil, false
	}
	b := bytes.Clone(c.b[c.at : c.at+n])
	c.at += n
	return b, true
}

// Match passes s, if that is what stands next; else it answers false and stays.
func (c *Cursor) Match(s string) bool {
	if c == nil || len(s) > c.Left() || string(c.b[c.at:c.at+len(s)]) != s {
		return false
	}
	c.at += len(s)
	return true
}

// Word is the next width bytes as a number, the highest first; false, and it stays, if width is not from 1 to 7 or there are not so many.
func (c *Cursor) Word(width int) (int, bool) {
	if width < 1 || width > widest || width > c.Left() {
		return 0, false
	}
	n := 0
	for range width {
		n = n<<8 | c.Next()
	}
	return n, true
}

// Find is the first place in b, from the place from on, at which s stands, or -1.
func Find(b []byte, s string, from int) int {
	from = max(from, 0)
	if from > len(b) {
		return -1
	}
	at := bytes.Index(b[from:], []byte(s))
	if at < 0 {
		return -1
	}
	return from + at
}

// Last is the last place in b at which s stands, or -1.
func Last(b []byte, s string) int { return bytes.LastIndex(b, []byte(s)) }

// Of is all parts, one behind the other, in new memory.
func Of(parts ...[]byte) []byte { return slices.Concat(parts...) }
