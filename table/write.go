package table

import (
	"strconv"
	"strings"

	"pressmark/api"
)

// The greatest numbers of a row that is written.
const (
	mostAt  = 9999999999 // of so many digits
	mostGen = 65535      // fewer than its digits could tell
)

// rise tells if each row may be written, and their numbers rise, each once.
func rise(rows ...Row) bool {
	above := -1
	for _, r := range rows {
		if !r.may() || r.Num <= above {
			return false
		}
		above = r.Num
	}
	return true
}

// may tells if a row may be written.
func (r Row) may() bool {
	return (r.Kind == Free || r.Kind == Placed) && upTo(r.Num, api.MaxNumber) && upTo(r.At, mostAt) && upTo(r.Gen, mostGen)
}

// upTo tells if n is from 0 to most.
func upTo(n, most int) bool { return n >= 0 && n <= most }

// writer puts texts one behind the other.
type writer struct{ b []byte }

// add puts texts behind those that are there.
func (w *writer) add(texts ...string) {
	for _, s := range texts {
		w.b = append(w.b, s...)
	}
}

// part adds rows, one at least, whose numbers follow one another.
func (w *writer) part(rows ...Row) {
	w.add(strconv.Itoa(rows[0].Num), " ", strconv.Itoa(len(rows)), "\n")
	for _, r := range rows {
		w.add(padded(r.At, atDigits), " ", padded(r.Gen, genDigits), " ", r.sign(), " \n")
	}
}

// padded is n in so many digits.
func padded(n, digits int) string {
	s := strconv.Itoa(n)
	return strings.Repeat("0", digits-len(s)) + s
}

// sign tells the kind of a row.
func (r Row) sign() string {
	if r.Kind == Placed {
		return placedSign
	}
	return freeSign
}
