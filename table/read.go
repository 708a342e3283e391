package table

import (
	"slices"

	"pressmark/api"
	"pressmark/lex"
	"pressmark/parse"
)

// reader reads a section, step by step, from where its parser stands.
type reader struct {
	*parse.Parser
	section Section
}

// head passes the word ahead of the rows.
func (r *reader) head() api.Errno {
	t, e := r.Token()
	if e == api.OK && !says(t, headWord) {
		return r.wrong(t)
	}
	return e
}

// parts passes the rows, and the word behind them.
func (r *reader) parts() api.Errno {
	for {
		t, e := r.Token()
		if e != api.OK || says(t, trailerWord) {
			return e
		}
		if e = r.part(t); e != api.OK {
			return e
		}
	}
}

// part passes rows of numbers that follow one another, of which t is to be the first.
func (r *reader) part(t lex.Token) api.Errno {
	if !counts(t, api.MaxNumber) {
		return r.wrong(t)
	}
	first := int(t.N)
	t, e := r.Token()
	if e != api.OK {
		return e
	}
	if !counts(t, api.MaxNumber+1-first) {
		return r.wrong(t)
	}
	r.whites()
	for i := range int(t.N) {
		if e = r.entry(first + i); e != api.OK {
			return e
		}
	}
	return api.OK
}

// whites passes white signs: a comment may not stand ahead of an entry.
func (r *reader) whites() {
	for white(r.Peek(0)) {
		r.Next()
	}
}

// entry passes the row of a number, or none of it.
func (r *reader) entry(num int) api.Errno {
	if r.Left() < entryBytes {
		return api.ErrShort
	}
	begin := r.Pos()
	row, ok := r.row()
	if !ok {
		r.Seek(begin)
		return api.ErrForm
	}
	row.Num = num
	r.section.Rows = append(r.section.Rows, row)
	return api.OK
}

// row passes a row, which does not tell its number.
func (r *reader) row() (Row, bool) {
	at, ok := r.digits(atDigits)
	if !ok || !r.Match(" ") {
		return Row{}, false
	}
	gen, ok := r.digits(genDigits)
	if !ok || !r.Match(" ") {
		return Row{}, false
	}
	kind, ok := r.kind()
	if !ok || !slices.ContainsFunc([]string{" \r", " \n", "\r\n"}, r.Match) {
		return Row{}, false
	}
	return Row{Kind: kind, At: at, Gen: gen}, true
}

// digits passes so many digits, and answers their number.
func (r *reader) digits(many int) (int, bool) {
	n := 0
	for range many {
		d := r.Next() - '0'
		if d < 0 || d > 9 {
			return 0, false
		}
		n = 10*n + d
	}
	return n, true
}

// kind passes the sign of a kind.
func (r *reader) kind() (int, bool) {
	switch {
	case r.Match(freeSign):
		return Free, true
	case r.Match(placedSign):
		return Placed, true
	}
	return 0, false
}

// trailer passes what stands behind the rows.
func (r *reader) trailer() api.Errno {
	r.Blank()
	begin := r.Pos()
	o, e := r.Value()
	if e != api.OK {
		return e
	}
	if o.Kind != api.Dict {
		r.Seek(begin)
		return api.ErrForm
	}
	r.section.Trailer = o
	return api.OK
}

// wrong goes back to a token that may not stand where it stands, and answers its error.
func (r *reader) wrong(t lex.Token) api.Errno {
	r.Seek(t.At)
	if t.Kind == lex.End {
		return api.ErrShort
	}
	return api.ErrForm
}

// says tells if t is the word s.
func says(t lex.Token, s string) bool { return t.Kind == lex.Word && string(t.B) == s }

// counts tells if t is a whole number from 0 to most.
func counts(t lex.Token, most int) bool {
	return t.Kind == lex.Whole && t.N >= 0 && t.N <= int64(most)
}

// white tells if c is a white sign.
func white(c int) bool {
	switch c {
	case 0, '\t', '\n', '\f', '\r', ' ':
		return true
	}
	return false
}
