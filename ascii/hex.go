package ascii

import "pressmark/api"

// digits are those that Hex writes.
const digits = "0123456789abcdef"

// pairs reads digits of base 16 by pairs.
type pairs struct {
	reader
	begun bool // whether a pair was begun
	first int  // its digit
}

// Hex is b in digits of base 16, and their end.
func Hex(b []byte) []byte {
	signs := make([]byte, 0, 2*len(b)+1)
	for _, c := range b {
		signs = append(signs, digits[c>>4], digits[c&15])
	}
	return append(signs, '>')
}

// Unhex is what the digits of b say, up to their end, of at most so many bytes.
func Unhex(b []byte, most int) ([]byte, api.Errno) {
	p := &pairs{reader: open(b, most)}
	if e := p.read(); e != api.OK {
		return nil, e
	}
	return p.came, api.OK
}

// read reads up to the end of the digits.
func (p *pairs) read() api.Errno {
	for c := p.sign(); c != '>'; c = p.sign() {
		if e := p.digit(c); e != api.OK {
			return e
		}
	}
	if p.begun {
		return p.digit('0')
	}
	return api.OK
}

// digit takes a sign, or -1, as the next digit.
func (p *pairs) digit(c int) api.Errno {
	d := Digit(c)
	switch {
	case c < 0:
		return api.ErrShort
	case d < 0:
		return api.ErrForm
	case p.begun:
		p.begun = false
		return p.put(byte(p.first<<4 | d))
	}
	p.begun, p.first = true, d
	return api.OK
}
