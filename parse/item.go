package parse

import (
	"pressmark/api"
	"pressmark/cos"
	"pressmark/lex"
)

// head passes what stands ahead of an item's object, and answers the number.
func (p *Parser) head() (int, api.Errno) {
	num, e := p.number(1, api.MaxNumber)
	if e != api.OK {
		return 0, e
	}
	if _, e = p.number(0, 0); e != api.OK {
		return 0, e
	}
	if e = p.word("obj"); e != api.OK {
		return 0, e
	}
	return num, api.OK
}

// number passes a whole number from least to most.
func (p *Parser) number(least, most int64) (int, api.Errno) {
	t, e := p.Token()
	if e != api.OK {
		return 0, e
	}
	if t.Kind != lex.Whole || t.N < least || t.N > most {
		return 0, p.wrong(t)
	}
	return int(t.N), api.OK
}

// word passes the word s.
func (p *Parser) word(s string) api.Errno {
	t, e := p.Token()
	if e != api.OK {
		return e
	}
	if t.Kind != lex.Word || string(t.B) != s {
		return p.wrong(t)
	}
	return api.OK
}

// body passes an item's object, a stream's data too.
func (p *Parser) body() (api.Obj, api.Errno) {
	o, e := p.value(p.depth)
	if e != api.OK || o.Kind != api.Dict || !p.Keyword("stream") {
		return o, e
	}
	data, e := p.data(cos.Get(o, "Length"))
	if e != api.OK {
		return cos.None(), e
	}
	o = cos.Drop(o, "Length")
	o.Kind, o.B = api.Stream, data
	return o, api.OK
}

// data passes so many bytes as length says, with the ends of lines around and the word behind them.
func (p *Parser) data(length api.Obj) ([]byte, api.Errno) {
	if e := p.line(); e != api.OK {
		return nil, e
	}
	if length.Kind != api.Int || length.N < 0 {
		return nil, api.ErrForm
	}
	b, ok := p.Take(int(length.N))
	if !ok {
		return nil, api.ErrShort
	}
	// An end of line behind the data is blank, which a word may have ahead of it anyway.
	if e := p.word("endstream"); e != api.OK {
		return nil, e
	}
	return b, api.OK
}

// line passes the end of line that must stand here: one of 13 alone would leave open whether a 10 behind it is data.
func (p *Parser) line() api.Errno {
	switch {
	case p.Match("\r\n"), p.Match("\n"):
		return api.OK
	case p.Left() == 0:
		return api.ErrShort
	}
	return api.ErrForm
}
