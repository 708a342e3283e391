package xstream

import (
	"slices"

	"pressmark/api"
	"pressmark/cos"
	"pressmark/parse"
	"pressmark/table"
)

// mostWidth is how many bytes a number of a row has at most.
const mostWidth = 4

// form is how rows stand in bytes.
type form struct {
	widths [3]int // bytes of a row's kind, its At and its Gen
	parts  []part
}

// part is so many rows, whose numbers follow one another from first on.
type part struct{ first, many int }

// formOf is what a stream says of its rows; false, if it does not say it well.
func formOf(o api.Obj) (form, bool) {
	size, sized := whole(cos.Get(o, sizeKey), 1, api.MaxNumber+1)
	f := form{parts: []part{{0, size}}}
	if !typed(o, rowsType) || !f.wide(cos.Get(o, widthKey)) || !sized {
		return form{}, false
	}
	index := cos.Get(o, indexKey)
	if cos.Same(index, cos.None()) {
		return f, true
	}
	return f, f.parted(index)
}

// wide takes the widths as o tells them.
func (f *form) wide(o api.Obj) bool {
	if o.Kind != api.Arr || len(o.L) != len(f.widths) {
		return false
	}
	for i, one := range o.L {
		n, ok := whole(one, 0, mostWidth)
		if !ok {
			return false
		}
		f.widths[i] = n
	}
	return f.width() > 0
}

// width is how many bytes a row has.
func (f *form) width() int { return f.widths[0] + f.widths[1] + f.widths[2] }

// parted takes the parts as o tells them.
func (f *form) parted(o api.Obj) bool {
	if o.Kind != api.Arr || len(o.L)%2 != 0 {
		return false
	}
	f.parts = nil
	for pair := range slices.Chunk(o.L, 2) {
		first, ok := whole(pair[0], 0, api.MaxNumber)
		if !ok {
			return false
		}
		many, ok := whole(pair[1], 0, int64(api.MaxNumber+1-first))
		if !ok {
			return false
		}
		f.parts = append(f.parts, part{first, many})
	}
	return true
}

// many is how many rows there are in all.
func (f *form) many() int {
	n := 0
	for _, p := range f.parts {
		n += p.many
	}
	return n
}

// read are the rows that just fill b.
func (f *form) read(b []byte) ([]table.Row, api.Errno) {
	many := f.many()
	switch all := many * f.width(); {
	case len(b) < all:
		return nil, api.ErrShort
	case len(b) > all:
		return nil, api.ErrLong
	}
	r := rowReader{Parser: parse.New(b, 0), form: f}
	rows := make([]table.Row, 0, many)
	for _, p := range f.parts {
		for i := range p.many {
			row, ok := r.row(p.first + i)
			if !ok {
				return nil, api.ErrForm
			}
			rows = append(rows, row)
		}
	}
	return rows, api.OK
}

// rowReader reads rows from where its parser stands.
type rowReader struct {
	*parse.Parser
	*form
}

// row passes the row of a number; false, if it is of no kind.
func (r rowReader) row(num int) (table.Row, bool) {
	row := table.Row{Num: num, Kind: table.Placed}
	for i, to := range [...]*int{&row.Kind, &row.At, &row.Gen} {
		// A number of no bytes is no Word: it stays what it is without one.
		if n, ok := r.Word(r.widths[i]); ok {
			*to = n
		}
	}
	return row, row.Kind <= table.Packed
}
