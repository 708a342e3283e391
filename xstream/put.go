package xstream

import (
	"strconv"

	"pressmark/api"
	"pressmark/cos"
	"pressmark/table"
)

// How many bytes the numbers of a row have that is written.
const (
	kindWidth = 1
	atWidth   = 4
	genWidth  = 4
)

// mostGen is the greatest Gen of a row that is not packed.
const mostGen = 65535

// rise tells if each row may be written, and their numbers rise, each once.
func rise(rows ...table.Row) bool {
	above := -1
	for _, r := range rows {
		if !may(r) || r.Num <= above {
			return false
		}
		above = r.Num
	}
	return true
}

// may tells if a row may be written.
func may(r table.Row) bool {
	num, at, gen := int64(r.Num), int64(r.At), int64(r.Gen)
	if !between(num, 0, api.MaxNumber) {
		return false
	}
	switch r.Kind {
	case table.Free, table.Placed:
		return between(at, 0, api.MaxInt) && between(gen, 0, mostGen)
	case table.Packed:
		return between(at, 1, api.MaxNumber) && between(gen, 0, api.MaxInt)
	}
	return false
}

// told are rows in bytes.
func told(rows ...table.Row) []byte {
	b := make([]byte, 0, len(rows)*(kindWidth+atWidth+genWidth))
	for _, r := range rows {
		b = word(b, kindWidth, r.Kind)
		b = word(b, atWidth, r.At)
		b = word(b, genWidth, r.Gen)
	}
	return b
}

// word is b with n behind it in so many bytes, the highest first.
func word(b []byte, width, n int) []byte {
	for i := width - 1; i >= 0; i-- {
		b = append(b, byte(n>>(8*i)))
	}
	return b
}

// size is one more than the greatest number of rows whose numbers rise.
func size(rows ...table.Row) int {
	if len(rows) == 0 {
		return 1
	}
	return rows[len(rows)-1].Num + 1
}

// parts tell, of each row of numbers that follow one another, the first one and how many there are.
func parts(rows ...table.Row) []api.Obj {
	var l []api.Obj
	for i, r := range rows {
		if i == 0 || rows[i-1].Num+1 != r.Num {
			l = append(l, cos.Int(r.Num), cos.Int(0))
		}
		l[len(l)-1].N++
	}
	return l
}

// add is b with numbers behind it, each with a blank behind.
func add(b []byte, numbers ...int) []byte {
	for _, n := range numbers {
		b = append(strconv.AppendInt(b, int64(n), 10), ' ')
	}
	return b
}
