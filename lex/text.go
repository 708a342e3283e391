package lex

import "pressmark/api"

// text passes bytes as a text, up to the bracket that closes the one that is passed.
func (l *Lexer) text() (Token, api.Errno) {
	t := Token{Kind: Text}
	open := 1
	for {
		c := l.Next()
		switch c {
		case -1:
			return Token{}, api.ErrShort
		case '(':
			open++
		case ')':
			open--
		case '\r', '\n':
			c = l.line(c)
		case '\\':
			c = l.escaped()
		}
		if open == 0 {
			return t, api.OK
		}
		if c < 0 {
			continue
		}
		t.B = append(t.B, byte(c))
		if len(t.B) > api.MaxText {
			return Token{}, api.ErrLong
		}
	}
}

// line passes the rest of the end of line that c begins, and answers the byte that it is in a text.
func (l *Lexer) line(c int) int {
	if c == '\r' {
		l.Match("\n")
	}
	return '\n'
}

// escaped passes what a backslash stands ahead of, and answers the byte that they are, or -1, if they are none.
func (l *Lexer) escaped() int {
	c := l.Next()
	switch c {
	case 'n':
		return '\n'
	case 'r':
		return '\r'
	case 't':
		return '\t'
	case 'b':
		return '\b'
	case 'f':
		return '\f'
	case '\r', '\n':
		l.line(c)
		return -1
	case '0', '1', '2', '3', '4', '5', '6', '7':
		return l.octal(c - '0')
	}
	return c
}

// octal passes at most two digits of base 8 behind the first one, n, and answers the byte that they are.
func (l *Lexer) octal(n int) int {
	for range 2 {
		c := l.Peek(0)
		if c < '0' || c > '7' {
			break
		}
		n = n*8 + c - '0'
		l.Next()
	}
	return n % 256
}
