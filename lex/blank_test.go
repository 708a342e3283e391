package lex_test

import (
	"fmt"
	"math"
	"strings"
	"testing"

	"pressmark/api"
	"pressmark/lex"
)

// Regular.

func TestRegular(t *testing.T) {
	n := 0
	for c := -300; c < 600; c++ {
		if lex.Regular(c) != slowRegular(c) {
			t.Errorf("Regular(%d): %v, want %v", c, lex.Regular(c), slowRegular(c))
		}
		if lex.Regular(c) {
			n++
		}
	}
	if n != 256-6-10 {
		t.Errorf("%d bytes are regular, want 240", n)
	}
	for _, c := range []int{'a', 'Z', '0', '#', '+', '-', '.', '\'', '"', '\\', '*', 1, 8, 11, 14, 31, 127, 128, 160, 255} {
		if !lex.Regular(c) {
			t.Errorf("Regular(%d): false", c)
		}
	}
	for _, c := range []int{0, 9, 10, 12, 13, 32, '(', ')', '<', '>', '[', ']', '{', '}', '/', '%', -1, 256, 256 + 'a', -256 + 'a', math.MaxInt, math.MinInt, math.MaxInt32, math.MinInt32, 1 << 32, 1<<32 + 'a'} {
		if lex.Regular(c) {
			t.Errorf("Regular(%d): true", c)
		}
	}
}

// P11.1: what is blank.

// leaves asks that Blank passes just so much, from the beginning of b on, and nothing, when it is asked once more.
func leaves(t *testing.T, b string, pos int) {
	t.Helper()
	given := spared(b)
	l := lex.New(given)
	for range 2 {
		l.Blank()
		if l.Pos() != pos || l.Left() != len(b)-pos {
			t.Errorf("Blank of %s: stands at %d, want %d", short(b), l.Pos(), pos)
		}
	}
	untouched(t, "Blank", given, b)
	if want := len(b) - len(slowBlank(b)); pos != want {
		t.Errorf("Blank of %s, the slow one: %d, want %d", short(b), want, pos)
	}
}

func TestBlank(t *testing.T) {
	for b, pos := range map[string]int{
		"":                                       0,
		"a":                                      0,
		" ":                                      1,
		" a":                                     1,
		"a ":                                     0,
		"\x00\t\n\f\r a":                         6,
		"\x00\t\n\f\r ":                          6,
		"\r\n\r\na":                              4,
		"%":                                      1,
		"%a":                                     2,
		"% a":                                    3,
		"%\n":                                    2,
		"%\na":                                   2,
		"%\ra":                                   2,
		"%\r\na":                                 3,
		"%a\nb":                                  3,
		"%a\rb":                                  3,
		"%a\r\nb":                                4,
		"%a\x00\t\f b":                           7,
		"%a\x0b\x85\x1cb":                        6,
		"%a%b\nc":                                5,
		"%%\n%%\ra":                              6,
		"%a\n%b\n%c":                             8,
		"%a\n %b\r\t%c\nd":                       11,
		" %a\n b":                                5,
		"%(\n)":                                  3,
		"%\\\na":                                 3,
		"%>\n<":                                  3,
		"%\xff\n\xff":                            3,
		"%PDF-1.7\n%\xe2\xe3\xcf\xd3\r\n1 0 obj": 16,
		"%%EOF":                                  5,
		"%%EOF\n":                                6,
		"\x0b":                                   0,
		"\x85 ":                                  0,
		"\xa0 ":                                  0,
		"(":                                      0,
		"/ ":                                     0,
		" )":                                     1,
		strings.Repeat(" ", 1<<20) + "a":         1 << 20,
		"%" + strings.Repeat(" a%", 1<<20) + "\ra":                 3<<20 + 2,
		strings.Repeat("%a\n", 1<<20) + "a":                        3 << 20,
		strings.Repeat("%", 1<<20):                                 1 << 20,
		strings.Repeat("\r", 1<<20) + strings.Repeat("%\r", 1<<20): 3 << 20,
	} {
		leaves(t, b, pos)
	}
}

func TestBlankOfEachByte(t *testing.T) {
	for c := range 256 {
		b := string([]byte{byte(c)})
		leaves(t, b+"a", len(b+"a")-len(slowBlank(b+"a")))
		switch b {
		case "\r", "\n":
			leaves(t, "%x"+b+"a", 3)
		default:
			leaves(t, "%x"+b+"a", 4)
			leaves(t, "%x"+b+"a\nb", 5)
		}
	}
}

func TestBlankOfFewSigns(t *testing.T) {
	texts("% \n\ra\x00", 6, func(b string) {
		leaves(t, b, len(b)-len(slowBlank(b)))
		holds(t, short(b), next(lex.New(spared(b))), slowToken(b, 0))
	})
}

// P11.2

// keyword asks Keyword from a place of b on: where it stands then, and what it answers.
func keyword(t *testing.T, b string, at int, s string, pos int, want bool) {
	t.Helper()
	given := spared(b)
	l := lex.New(given)
	l.Seek(at)
	if got := l.Keyword(s); got != want || l.Pos() != pos {
		t.Errorf("Keyword(%q) of %s from %d: %v, stands at %d, want %v, %d", s, short(b), at, got, l.Pos(), want, pos)
	}
	untouched(t, "Keyword", given, b)
}

func TestKeyword(t *testing.T) {
	keyword(t, "xref", 0, "xref", 4, true)
	keyword(t, "xref 1", 0, "xref", 4, true)
	keyword(t, " \n%x\rxref%", 0, "xref", 9, true)
	keyword(t, "a xref", 1, "xref", 6, true)
	keyword(t, "a xref", 2, "xref", 6, true)
	keyword(t, "%xref\nxref", 0, "xref", 10, true)
	keyword(t, "%xref\nxref", 1, "xref", 5, true)
	keyword(t, "%xref", 0, "xref", 0, false)
	keyword(t, " xrefs", 0, "xref", 0, false)
	keyword(t, " xref1", 0, "xref", 0, false)
	keyword(t, " xref#", 0, "xref", 0, false)
	keyword(t, " xref\xff", 0, "xref", 0, false)
	keyword(t, " xre", 0, "xref", 0, false)
	keyword(t, " xRef", 0, "xref", 0, false)
	keyword(t, " x ref", 0, "xref", 0, false)
	keyword(t, " x", 0, "xref", 0, false)
	keyword(t, " ", 0, "xref", 0, false)
	keyword(t, "", 0, "xref", 0, false)
	keyword(t, "startxref", 0, "xref", 0, false)
	// What stands ahead does not count.
	keyword(t, "startxref", 5, "xref", 9, true)
	keyword(t, "a %x\nb", 1, "c", 1, false)
	keyword(t, "a %x\nb", 1, "b", 6, true)
	// Only what is behind the text counts, not of what signs it is.
	keyword(t, " <</A", 0, "<<", 3, true)
	keyword(t, " <<A", 0, "<<", 0, false)
	keyword(t, "<<", 0, "<", 1, true)
	keyword(t, "12 R", 0, "12", 2, true)
	keyword(t, "12 R", 0, "1", 0, false)
	keyword(t, "12 R", 0, "12 R", 4, true)
	keyword(t, "/A", 0, "/", 0, false)
	keyword(t, "/ A", 0, "/", 1, true)
	keyword(t, "a b", 0, "a ", 0, false)
	keyword(t, "a  b", 0, "a ", 2, true)
	keyword(t, " a", 0, " a", 0, false)
	keyword(t, "%a", 0, "%a", 0, false)
	keyword(t, "\xff\x80", 0, "\xff\x80", 2, true)
	keyword(t, "\xff", 0, "\xff\x80", 0, false)
	// An empty text stands everywhere.
	keyword(t, "", 0, "", 0, true)
	keyword(t, " %x", 0, "", 3, true)
	keyword(t, " (", 0, "", 1, true)
	keyword(t, " a", 0, "", 0, false)
	keyword(t, "a", 1, "", 1, true)
	long := strings.Repeat("k", 1<<16)
	keyword(t, " "+long, 0, long, 1+len(long), true)
	keyword(t, " "+long, 0, long[1:], 0, false)
	keyword(t, " "+long, 0, long+"k", 0, false)
}

func TestKeywordBehind(t *testing.T) {
	for c := range 256 {
		b := " obj" + string([]byte{byte(c)}) + "1"
		if slowRegular(c) {
			keyword(t, b, 0, "obj", 0, false)
		} else {
			keyword(t, b, 0, "obj", 4, true)
		}
	}
}

func TestKeywordOfFewSigns(t *testing.T) {
	var words []string
	texts("ab/ ", 3, func(s string) { words = append(words, s) })
	texts("ab/ %\n", 4, func(b string) {
		for _, s := range words {
			rest, ok := slowKeyword(b, s)
			keyword(t, b, 0, s, len(b)-len(rest), ok)
		}
	})
}

func TestKeywordsInTurn(t *testing.T) {
	l := lex.New([]byte("1 0 obj null%x\nendobj"))
	for i, s := range []string{"1", "0", "obj", "null", "endobj"} {
		for _, other := range []string{"endobj1", "ob", "n", "x", "%x"} {
			at := l.Pos()
			if l.Keyword(other) || l.Pos() != at {
				t.Errorf("Keyword(%q) ahead of %d", other, i)
			}
		}
		if !l.Keyword(s) {
			t.Errorf("Keyword(%q): false", s)
		}
	}
	if l.Left() != 0 || l.Keyword("endobj") || !l.Keyword("") {
		t.Error("at the end")
	}
}

// The cursor's methods, which are promoted.

func TestPromoted(t *testing.T) {
	b := "12 /Ab(c) stream\r\ndata\nendstream"
	l := lex.New(spared(b))
	if l.Pos() != 0 || l.Len() != len(b) || l.Left() != len(b) || l.Peek(0) != '1' || l.Peek(-1) != -1 {
		t.Error("at the beginning")
	}
	holds(t, "a number", next(l), number(lex.Whole, 12, 0, 2))
	if l.Pos() != 2 || l.Len() != len(b) || l.Left() != len(b)-2 || l.Peek(0) != ' ' || l.Peek(-1) != '2' {
		t.Error("behind a number")
	}
	if l.Seek(-1) || l.Seek(len(b)+1) || !l.Seek(4) {
		t.Error("Seek")
	}
	holds(t, "within a name", next(l), row(lex.Word, "Ab", 4, 6))
	if l.Next() != '(' {
		t.Error("Next")
	}
	holds(t, "within a text", next(l), row(lex.Word, "c", 7, 8))
	holds(t, "a text's end", next(l), fault(8, api.ErrForm))
	if l.Match("x") || !l.Match(")") || l.Match("stream") || !l.Keyword("stream") || l.Match("\n") || !l.Match("\r\n") {
		t.Error("Match")
	}
	if data, ok := l.Take(4); !ok || string(data) != "data" {
		t.Errorf("Take: %s, %v", data, ok)
	}
	if n, ok := l.Cursor.Word(1); !ok || n != '\n' {
		t.Errorf("Word: %d, %v", n, ok)
	}
	holds(t, "behind it", next(l), row(lex.Word, "endstream", 23, 32))
	holds(t, "at the end", next(l), end(32))
	if _, ok := l.Take(1); ok || l.Next() != -1 || !l.Seek(0) {
		t.Error("at the end")
	}
	holds(t, "from the beginning", next(l), number(lex.Whole, 12, 0, 2))
}

// R7, R1: a nil Lexer, and one without a cursor.

func TestNilLexer(t *testing.T) {
	var l *lex.Lexer
	for range 2 {
		tok, e := l.Token()
		if e != api.ErrArg || tok.Kind != 0 || tok.At != 0 || tok.N != 0 || tok.B != nil {
			t.Errorf("Token of nil: %v, %v, want ErrArg", tok, e)
		}
		l.Blank()
		for _, s := range []string{"", " ", "obj"} {
			if l.Keyword(s) {
				t.Errorf("Keyword(%q) of nil: true", s)
			}
		}
	}
}

func TestLexerWithoutCursor(t *testing.T) {
	l := &lex.Lexer{}
	l.Blank()
	holds(t, "without a cursor", next(l), end(0))
	if l.Keyword("obj") || l.Keyword("") || l.Pos() != 0 {
		t.Error("without a cursor: a keyword")
	}
}

func TestLexerOfNoBytes(t *testing.T) {
	for _, b := range [][]byte{nil, {}, make([]byte, 0, 9)} {
		l := lex.New(b)
		l.Blank()
		holds(t, "no bytes", next(l), end(0))
		holds(t, "no bytes", next(l), end(0))
		if l.Keyword("a") || !l.Keyword("") || l.Len() != 0 {
			t.Error(fmt.Sprint("no bytes: a keyword of ", cap(b)))
		}
	}
}
