package deflate

import "math/bits"

// end is the symbol that ends a block: bytes are below it, lengths above.
const end = 256

// code writes a code: unlike numbers these go by their highest bit first.
func (w *writer) code(n, width int) {
	w.Put(int(bits.Reverse16(uint16(n))>>(16-width)), width)
}

// symbol writes a byte, the block's end or what a length begins with. Codes of one width rise with symbols.
func (w *writer) symbol(s int) {
	switch {
	case s < 144:
		w.code(0b00110000+s, 8)
	case s < 256:
		w.code(0b110010000+s-144, 9)
	case s < 280:
		w.code(s-256, 7)
	default:
		w.code(0b11000000+s-280, 8)
	}
}

// length writes how long a row is. To each width of the bits behind belong four symbols, but to 0 eight, and one for the longest alone.
func (w *writer) length(n int) {
	if n == longest {
		w.symbol(end + 29)
		return
	}
	n -= shortest
	width := max(bits.Len(uint(n))-3, 0)
	w.symbol(end + 1 + 4*width + n>>width)
	w.Put(n, width)
}

// distance writes how far behind a row stood. To each width of the bits behind belong two symbols, but to 0 four.
func (w *writer) distance(far int) {
	far--
	width := max(bits.Len(uint(far))-2, 0)
	w.code(2*width+far>>width, 5)
	w.Put(far, width)
}
