package inflate

import "pressmark/cursor"

// widest is the greatest number of bits that one Take answers.
const widest = 16

// Bits reads bits, of each byte the lowest first. Its cursor goes by whole bytes: it stands at the first that was not begun.
type Bits struct {
	*cursor.Cursor
	rest int // the bits not yet read of the byte that was begun, the next one the lowest
	many int // how many these are: below 8
}

// Open is a reader at the beginning of b, which it looks at, and does not change.
func Open(b []byte) *Bits { return &Bits{Cursor: cursor.New(b)} }

// Bit is the next bit, or -1 at the end.
func (b *Bits) Bit() int { return b.Take(1) }

// Take is the next n bits, the first the lowest; -1, and nothing is taken, if n is not from 0 to 16 or fewer are left.
func (b *Bits) Take(n int) int {
	if b == nil || n < 0 || n > widest || n > b.many+8*b.Left() {
		return -1
	}
	for b.many < n {
		b.rest |= b.Next() << b.many
		b.many += 8
	}
	taken := b.rest & (1<<n - 1)
	b.rest >>= n
	b.many -= n
	return taken
}

// Align leaves out the rest of a byte that was begun.
func (b *Bits) Align() {
	if b != nil {
		b.rest, b.many = 0, 0
	}
}
