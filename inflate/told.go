package inflate

import (
	"slices"

	"pressmark/api"
)

// order is that in which the lengths of the code of lengths are told.
var order = [...]int{16, 17, 18, 0, 8, 7, 9, 6, 10, 5, 11, 4, 12, 3, 13, 2, 14, 1, 15}

// fixedPair is the pair that is never told.
func fixedPair() *pair {
	symbols, _ := codeOf(slices.Concat(
		slices.Repeat([]int{8}, 144),
		slices.Repeat([]int{9}, 112),
		slices.Repeat([]int{7}, 24),
		slices.Repeat([]int{8}, 8),
	))
	distances, _ := codeOf(slices.Repeat([]int{5}, 32))
	return &pair{symbols, distances}
}

// told reads the pair that a block tells.
func (r *reader) told() (*pair, api.Errno) {
	n, e := r.count(257, 286)
	if e != api.OK {
		return nil, e
	}
	m, e := r.count(1, 30)
	if e != api.OK {
		return nil, e
	}
	c, e := r.lengthsCode()
	if e != api.OK {
		return nil, e
	}
	row, e := r.row(c, n+m)
	if e != api.OK {
		return nil, e
	}
	symbols, ok := codeOf(row[:n])
	distances, fits := codeOf(row[n:])
	if !ok || !fits || row[end] == 0 {
		return nil, api.ErrForm
	}
	return &pair{symbols, distances}, api.OK
}

// count reads how many lengths there are, in 5 bits, and refuses more than most.
func (r *reader) count(least, most int) (int, api.Errno) {
	n, e := r.number(least, 5)
	if n > most {
		return 0, api.ErrForm
	}
	return n, e
}

// lengthsCode reads the code of lengths.
func (r *reader) lengthsCode() (*code, api.Errno) {
	n, e := r.number(4, 4)
	if e != api.OK {
		return nil, e
	}
	lengths := make([]int, len(order))
	for i := range n {
		if lengths[order[i]], e = r.number(0, 3); e != api.OK {
			return nil, e
		}
	}
	c, ok := codeOf(lengths)
	if !ok {
		return nil, api.ErrForm
	}
	return c, api.OK
}

// row reads n lengths, which are written in c.
func (r *reader) row(c *code, n int) ([]int, api.Errno) {
	row := make([]int, 0, n)
	for len(row) < n {
		length, times, e := r.piece(c, row)
		if e != api.OK {
			return nil, e
		}
		if times > n-len(row) {
			return nil, api.ErrForm
		}
		for range times {
			row = append(row, length)
		}
	}
	return row, api.OK
}

// piece reads a length, and how many times it comes behind row.
func (r *reader) piece(c *code, row []int) (int, int, api.Errno) {
	s, e := r.symbol(c)
	if e != api.OK {
		return 0, 0, e
	}
	length, times := s, 1
	switch s {
	case 16:
		// Asked ahead of the bits behind the symbol: it is met there.
		if len(row) == 0 {
			return 0, 0, api.ErrForm
		}
		length = row[len(row)-1]
		times, e = r.number(3, 2)
	case 17:
		length = 0
		times, e = r.number(3, 3)
	case 18:
		length = 0
		times, e = r.number(11, 7)
	}
	return length, times, e
}
