package inflate

import "pressmark/api"

// longest is how many bits a symbol's code has at most.
const longest = 15

// code is a code of lengths. Of one length codes rise with symbols, shorter ones stand ahead: so these two tell all codes.
type code struct {
	many    [longest + 1]int // how many codes have that length
	symbols [288]uint16      // those that have a code, by rising codes
}

// codeOf is the code of lengths, for symbols 0, 1, ..; false, if it may not be.
func codeOf(lengths []int) (*code, bool) {
	c := &code{}
	coded, room := 0, 1<<longest
	for _, length := range lengths {
		if length > 0 {
			c.many[length]++
			coded++
			room -= 1 << (longest - length)
		}
	}
	if room < 0 || room > 0 && coded > 1 {
		return nil, false
	}
	c.sort(lengths)
	return c, true
}

// sort fills in the symbols.
func (c *code) sort(lengths []int) {
	var next [longest + 2]int // by lengths: where the next symbol goes
	for length, n := range c.many {
		next[length+1] = next[length] + n
	}
	for symbol, length := range lengths {
		if length > 0 {
			c.symbols[next[length]] = uint16(symbol)
			next[length]++
		}
	}
}

// symbol reads a code of c and answers what it stands for.
func (b *Bits) symbol(c *code) (int, api.Errno) {
	above := 0  // how far the bits read so far stand above the first code of their length
	passed := 0 // how many codes are shorter
	for _, n := range c.many[1:] {
		bit := b.Bit()
		if bit < 0 {
			return 0, api.ErrShort
		}
		above = 2*above + bit
		if above < n {
			return int(c.symbols[passed+above]), api.OK
		}
		// The first code that is one bit longer stands behind all of these.
		above -= n
		passed += n
	}
	return 0, api.ErrForm
}
