package lzw

import (
	"math/bits"

	"pressmark/deflate"
)

// writer writes codes.
type writer struct {
	deflate.Row
	rows map[link]int // the codes of the rows that were met
	told int          // how many bytes and rows were told since none was met
}

// link is a row, by its code, and a byte behind it.
type link struct {
	row  int
	next byte
}

// free is the next free code, as who reads knows it. With the first code nothing is entered there, with each further one the row ahead of it.
func (w *writer) free() int { return firstRow + max(w.told-1, 0) }

// code writes a code. A row of bits takes the lowest bit first, a code goes by its highest.
func (w *writer) code(n int) {
	wide := width(w.free())
	w.Put(int(bits.Reverse16(uint16(n))>>(16-wide)), wide)
}

// turned is all that was written: of each byte the row of bits fills the lowest bit first, codes the highest.
func (w *writer) turned() []byte {
	b := w.Bytes()
	for i, c := range b {
		b[i] = bits.Reverse8(c)
	}
	return b
}

// begin says that from here on no row was met.
func (w *writer) begin() {
	w.code(reset)
	clear(w.rows)
	w.told = 0
}

// row writes the longest row that b begins with, and answers how many bytes it is.
func (w *writer) row(b []byte) int {
	row, n := w.longest(b)
	w.code(row)
	w.told++
	if n < len(b) {
		w.enter(row, b[n])
	}
	return n
}

// longest is the code of the longest row that b begins with, and how many bytes it is. Of a row that was met all that it begins with was, too.
func (w *writer) longest(b []byte) (row, n int) {
	row = int(b[0])
	for n = 1; n < len(b); n++ {
		longer, met := w.rows[link{row, b[n]}]
		if !met {
			break
		}
		row = longer
	}
	return row, n
}

// enter enters a row with a byte behind it, by the code that is free for who reads: there it is entered, too, when the next code is read.
func (w *writer) enter(row int, next byte) {
	free := w.free()
	w.rows[link{row, next}] = free
	if free == full-1 {
		w.begin()
	}
}
