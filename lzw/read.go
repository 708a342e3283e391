package lzw

import "pressmark/api"

// reader reads codes.
type reader struct {
	b    []byte  // what was not begun yet
	rest int     // the bits not yet read of what was begun
	many int     // how many these are
	rows []place // the rows that were met, from firstRow on
	last place   // the row that came last; of no byte, where none was met
	came []byte  // what the codes told so far
	most int     // how many bytes may come
}

// place is where a row stands in what came: whatever is entered came in one piece.
type place struct{ at, n int }

// read reads up to the code that ends.
func (r *reader) read() api.Errno {
	for {
		n := r.code()
		switch n {
		case -1:
			return api.ErrShort
		case end:
			return api.OK
		case reset:
			r.rows, r.last = r.rows[:0], place{}
			continue
		}
		if e := r.row(n); e != api.OK {
			return e
		}
	}
}

// free is the next free code.
func (r *reader) free() int { return firstRow + len(r.rows) }

// code is the next code, or -1, where fewer bits are left.
func (r *reader) code() int {
	wide := width(r.free())
	for r.many < wide {
		if len(r.b) == 0 {
			return -1
		}
		r.rest = r.rest<<8 | int(r.b[0])
		r.b = r.b[1:]
		r.many += 8
	}
	r.many -= wide
	n := r.rest >> r.many
	r.rest &= 1<<r.many - 1
	return n
}

// row lets the byte or the row come that a code tells.
func (r *reader) row(n int) api.Errno {
	// Ahead of the byte that it ends with, the first of what comes now: so the next free code is a row like the others.
	r.enter()
	at, e := len(r.came), api.OK
	switch {
	case n < reset:
		e = r.put(byte(n))
	case n < r.free():
		e = r.again(r.rows[n-firstRow])
	default:
		e = api.ErrForm
	}
	r.last = place{at, len(r.came) - at}
	return e
}

// enter enters the last row, if there is one, and the byte behind it.
func (r *reader) enter() {
	if r.last.n > 0 && r.free() < full {
		r.rows = append(r.rows, place{r.last.at, r.last.n + 1})
	}
}

// put lets a byte come.
func (r *reader) put(c byte) api.Errno {
	if len(r.came) == r.most {
		return api.ErrLimit
	}
	r.came = append(r.came, c)
	return api.OK
}

// again lets a row come that came before.
func (r *reader) again(row place) api.Errno {
	if row.n > r.most-len(r.came) {
		return api.ErrLimit
	}
	// Byte by byte: the last one may be the first of those that come.
	for i := range row.n {
		r.came = append(r.came, r.came[row.at+i])
	}
	return api.OK
}
