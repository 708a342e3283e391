package lex

import (
	"pressmark/api"
	"pressmark/ascii"
	"pressmark/fixed"
)

// token passes the token that begins where l stands, and answers it but for its place.
func (l *Lexer) token() (Token, api.Errno) {
	c := l.Peek(0)
	switch {
	case c < 0:
		return Token{Kind: End}, api.OK
	case numeric(c):
		return l.number()
	case Regular(c):
		return l.word()
	case l.Match("["):
		return Token{Kind: Open}, api.OK
	case l.Match("]"):
		return Token{Kind: Close}, api.OK
	case l.Match("<<"):
		return Token{Kind: Left}, api.OK
	case l.Match(">>"):
		return Token{Kind: Right}, api.OK
	case l.Match("/"):
		return l.name()
	case l.Match("("):
		return l.text()
	case l.Match("<"):
		return l.digits()
	}
	return Token{}, api.ErrForm
}

// numeric tells whether c begins a number.
func numeric(c int) bool { return c >= '0' && c <= '9' || c == '+' || c == '-' || c == '.' }

// number passes regular signs as a number.
func (l *Lexer) number() (Token, api.Errno) {
	b, _ := l.Take(l.row(Regular))
	n, whole, e := fixed.Parse(b)
	if whole {
		return Token{Kind: Whole, N: n}, e
	}
	return Token{Kind: Real, N: n}, e
}

// word passes regular signs as they are.
func (l *Lexer) word() (Token, api.Errno) {
	b, _ := l.Take(l.row(Regular))
	if len(b) > api.MaxName {
		return Token{}, api.ErrLong
	}
	return Token{Kind: Word, B: b}, api.OK
}

// name passes regular signs as a name, whose slash is passed.
func (l *Lexer) name() (Token, api.Errno) {
	t := Token{Kind: Name}
	for Regular(l.Peek(0)) {
		c := l.named()
		// 0 comes by digits alone, for as it is it is no regular sign.
		if c <= 0 {
			return Token{}, api.ErrForm
		}
		t.B = append(t.B, byte(c))
		if len(t.B) > api.MaxName {
			return Token{}, api.ErrLong
		}
	}
	return t, api.OK
}

// named passes the next byte of a name, and answers it, or -1, if the digits that should tell it do not stand there.
func (l *Lexer) named() int {
	c := l.Next()
	if c != '#' {
		return c
	}
	high := ascii.Digit(l.Next())
	low := ascii.Digit(l.Next())
	if high < 0 || low < 0 {
		return -1
	}
	return high<<4 | low
}

// digits passes digits of base 16 as a text, whose bracket is passed.
func (l *Lexer) digits() (Token, api.Errno) {
	// With the sign behind them, if there is one: whether it ends them is Unhex's to tell.
	signs, _ := l.Take(min(l.row(paired)+1, l.Left()))
	b, e := ascii.Unhex(signs, api.MaxText)
	if e == api.ErrLimit {
		e = api.ErrLong
	}
	return Token{Kind: Text, B: b}, e
}

// paired tells whether c is a digit of base 16, or may stand between two.
func paired(c int) bool { return ascii.Digit(c) >= 0 || ascii.White(c) }
