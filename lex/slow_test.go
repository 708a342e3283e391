package lex_test

import (
	"bytes"
	"encoding/hex"
	"fmt"
	"math/rand"
	"regexp"
	"strconv"
	"strings"
	"testing"

	"pressmark/api"
	"pressmark/fixed"
	"pressmark/lex"
)

// whites are the white signs.
const whites = "\x00\t\n\f\r "

// delimiters are the delimiters.
const delimiters = "()<>[]{}/%"

// How texts are taken apart, of which each byte is a rune.
var (
	inText = regexp.MustCompile(`(?s)\\[0-7]{1,3}|\\\r\n|\\.|\r\n|.`)
	inName = regexp.MustCompile(`(?s)#[0-9A-Fa-f]{2}|.`)
	inHex  = regexp.MustCompile(`(?s)^([0-9A-Fa-f\x00\t\n\f\r ]*)(.?)`)
)

// answer is what a call of Token answers, and where the lexer stands then.
type answer struct {
	lex.Token
	e   api.Errno
	pos int
}

// String tells an answer.
func (a answer) String() string {
	kinds := strings.Fields("End Whole Real Text Name Open Close Left Right Word")
	kind := strconv.Itoa(a.Kind)
	if a.Kind >= 0 && a.Kind < len(kinds) {
		kind = kinds[a.Kind]
	}
	return fmt.Sprintf("%s at %d, N %d, B %s, %d (%v), stands at %d", kind, a.At, a.N, short(string(a.B)), a.e, a.e, a.pos)
}

// runes is b with a rune for each byte.
func runes(b string) string {
	l := make([]rune, len(b))
	for i := range len(b) {
		l[i] = rune(b[i])
	}
	return string(l)
}

// unruned is what runes was made of.
func unruned(s string) string {
	var b []byte
	for _, r := range s {
		b = append(b, byte(r))
	}
	return string(b)
}

// parts are the parts of b.
func parts(how *regexp.Regexp, b string) []string {
	l := how.FindAllString(runes(b), -1)
	for i := range l {
		l[i] = unruned(l[i])
	}
	return l
}

// slowRegular is what Regular has to answer.
func slowRegular(c int) bool {
	return c >= 0 && c < 256 && strings.IndexByte(whites+delimiters, byte(c)) < 0
}

// slowBlank is what Blank leaves of b.
func slowBlank(b string) string {
	for {
		b = strings.TrimLeft(b, whites)
		if !strings.HasPrefix(b, "%") {
			return b
		}
		end := strings.IndexAny(b, "\r\n")
		if end < 0 {
			return ""
		}
		b = b[end:]
	}
}

// slowRow is the regular signs that b begins with.
func slowRow(b string) string {
	n := 0
	for n < len(b) && slowRegular(int(b[n])) {
		n++
	}
	return b[:n]
}

// slowKeyword is whether Keyword has to answer true, and what it leaves of b.
func slowKeyword(b, s string) (string, bool) {
	rest, ok := strings.CutPrefix(slowBlank(b), s)
	if !ok || slowRow(rest) != "" {
		return b, false
	}
	return rest, true
}

// meant is what a part of a text says.
func meant(part string) string {
	switch part {
	case "\r\n", "\r":
		return "\n"
	case "\\", "\\\r\n", "\\\r", "\\\n":
		return ""
	}
	if part[0] != '\\' {
		return part
	}
	if n, err := strconv.ParseUint(part[1:], 8, 16); err == nil {
		return string([]byte{byte(n)})
	}
	for i, c := range "nrtbf" {
		if part == `\`+string(c) {
			return "\n\r\t\b\f"[i : i+1]
		}
	}
	return part[1:]
}

// slowText is the bytes of a text behind its bracket, and how long it is there.
func slowText(b string) (came []byte, long int, e api.Errno) {
	brackets := 1
	for _, part := range parts(inText, b) {
		long += len(part)
		switch part {
		case "(":
			brackets++
		case ")":
			brackets--
		}
		if brackets == 0 {
			return came, long, api.OK
		}
		came = append(came, meant(part)...)
		if len(came) > api.MaxText {
			return nil, 0, api.ErrLong
		}
	}
	return nil, 0, api.ErrShort
}

// slowDigits is slowText of a text in digits.
func slowDigits(b string) (came []byte, long int, e api.Errno) {
	row := inHex.FindStringSubmatch(runes(b))
	digits := strings.Join(strings.FieldsFunc(row[1], func(r rune) bool { return strings.ContainsRune(whites, r) }), "")
	switch {
	case len(digits) > 2*api.MaxText+1:
		return nil, 0, api.ErrLong
	case row[2] == "":
		return nil, 0, api.ErrShort
	case row[2] != ">":
		return nil, 0, api.ErrForm
	case len(digits) > 2*api.MaxText:
		return nil, 0, api.ErrLong
	case len(digits)%2 == 1:
		digits += "0"
	}
	came, err := hex.DecodeString(digits)
	if err != nil {
		panic(err)
	}
	return came, len(row[1]) + 1, api.OK
}

// slowName is the bytes of a name.
func slowName(row string) (came []byte, e api.Errno) {
	for _, part := range parts(inName, row) {
		switch {
		case part == "#" || part == "#00":
			return nil, api.ErrForm
		case len(part) == 3:
			n, _ := strconv.ParseUint(part[1:], 16, 8)
			part = string([]byte{byte(n)})
		}
		came = append(came, part...)
		if len(came) > api.MaxName {
			return nil, api.ErrLong
		}
	}
	return came, api.OK
}

// slowKind is the token that b begins with, that nothing blank does, how long it is there, and its error.
func slowKind(b string) (t lex.Token, long int, e api.Errno) {
	row := slowRow(b)
	switch {
	case b == "":
		return t, 0, api.OK
	case b[0] == '[':
		return lex.Token{Kind: lex.Open}, 1, api.OK
	case b[0] == ']':
		return lex.Token{Kind: lex.Close}, 1, api.OK
	case strings.HasPrefix(b, "<<"):
		return lex.Token{Kind: lex.Left}, 2, api.OK
	case strings.HasPrefix(b, ">>"):
		return lex.Token{Kind: lex.Right}, 2, api.OK
	case b[0] == '/':
		row = slowRow(b[1:])
		t.Kind = lex.Name
		t.B, e = slowName(row)
		return t, len(row) + 1, e
	case b[0] == '(':
		t.Kind = lex.Text
		t.B, long, e = slowText(b[1:])
		return t, long + 1, e
	case b[0] == '<':
		t.Kind = lex.Text
		t.B, long, e = slowDigits(b[1:])
		return t, long + 1, e
	case strings.IndexByte("+-.0123456789", b[0]) >= 0:
		n, whole, e := fixed.Parse([]byte(row))
		t = lex.Token{Kind: lex.Real, N: n}
		if whole {
			t.Kind = lex.Whole
		}
		return t, len(row), e
	case row == "":
		return t, 0, api.ErrForm
	case len(row) > api.MaxName:
		return t, 0, api.ErrLong
	}
	return lex.Token{Kind: lex.Word, B: []byte(row)}, len(row), api.OK
}

// slowToken is what Token has to answer from a place of b on.
func slowToken(b string, at int) answer {
	rest := slowBlank(b[at:])
	at = len(b) - len(rest)
	t, long, e := slowKind(rest)
	if e != api.OK {
		return answer{lex.Token{At: at}, e, at}
	}
	t.At = at
	return answer{t, api.OK, at + long}
}

// room is what stands in the spare room of what is handed in: it would end what does not end.
const room = "41>)>>"

// spared is b with room behind it.
func spared(b string) []byte { return append([]byte(b), room...)[:len(b)] }

// untouched tells if given, made by spared, is not what it was.
func untouched(t *testing.T, what string, given []byte, b string) {
	t.Helper()
	if string(given[:len(b)+len(room)]) != b+room {
		t.Errorf("%s: what was handed in is changed", what)
	}
}

// short is bytes of which no more is shown than tells where they differ.
func short(b string) string {
	if len(b) > 60 {
		return fmt.Sprintf("%d bytes, %q ..", len(b), b[:60])
	}
	return fmt.Sprintf("%q", b)
}

// next is what Token answers.
func next(l *lex.Lexer) answer {
	t, e := l.Token()
	return answer{t, e, l.Pos()}
}

// alike tells if answers are the same.
func alike(a, b answer) bool {
	return a.Kind == b.Kind && a.At == b.At && a.N == b.N && bytes.Equal(a.B, b.B) && a.e == b.e && a.pos == b.pos
}

// holds tells if an answer is not what it should be.
func holds(t *testing.T, what string, got, want answer) {
	t.Helper()
	if !alike(got, want) {
		t.Errorf("%s: %v, want %v", what, got, want)
	}
}

// tokens asks that b is just those tokens, each told with where it begins and where it ends, and then the end or an error; from each place on they are what a slow lexer reads.
func tokens(t *testing.T, what, b string, want ...answer) {
	t.Helper()
	l := lex.New(spared(b))
	for i, w := range want {
		holds(t, fmt.Sprintf("%s, %s, token %d", what, short(b), i), next(l), w)
	}
	everywhere(t, what, b)
}

// everywhere asks that the token from each place of b on is what a slow lexer reads, asked once more too, if it is an error.
func everywhere(t *testing.T, what, b string) {
	t.Helper()
	given := spared(b)
	l := lex.New(given)
	for at := range len(b) + 1 {
		from(t, fmt.Sprintf("%s, %s from %d", what, short(b), at), l, b, at)
	}
	untouched(t, what, given, b)
}

// from asks that the token from a place on is what a slow lexer reads.
func from(t *testing.T, what string, l *lex.Lexer, b string, at int) {
	t.Helper()
	l.Seek(at)
	want := slowToken(b, at)
	holds(t, what, next(l), want)
	if want.e != api.OK || want.Kind == lex.End {
		holds(t, what+", once more", next(l), want)
	}
}

// The answers, with where a token begins and where the lexer stands behind it.

func end(at int) answer { return answer{lex.Token{At: at}, api.OK, at} }

func fault(at int, e api.Errno) answer { return answer{lex.Token{At: at}, e, at} }

func sign(kind, at, pos int) answer { return answer{lex.Token{Kind: kind, At: at}, api.OK, pos} }

func number(kind int, n int64, at, pos int) answer {
	return answer{lex.Token{Kind: kind, At: at, N: n}, api.OK, pos}
}

func row(kind int, b string, at, pos int) answer {
	return answer{lex.Token{Kind: kind, At: at, B: []byte(b)}, api.OK, pos}
}

// only asks that b is one token and then the end, whatever blank stands around, and that it ends where a delimiter follows, too.
func only(t *testing.T, what, b string, kind int, n int64, bytes string) {
	t.Helper()
	for _, ahead := range []string{"", " ", "%(\n\r", "\x00%%\r"} {
		at, pos := len(ahead), len(ahead)+len(b)
		want := answer{lex.Token{Kind: kind, At: at, N: n, B: []byte(bytes)}, api.OK, pos}
		for _, behind := range []string{"", " ", "\x00", "%x", "\n", "/", "[", "(", "<x", ")"} {
			all := ahead + b + behind
			holds(t, what+", "+short(all), next(lex.New(spared(all))), want)
		}
	}
	everywhere(t, what, b)
}

// refused asks that b is an error at its beginning, whatever blank stands ahead, and whatever behind, if that does not count.
func refused(t *testing.T, what, b string, e api.Errno, behind ...string) {
	t.Helper()
	for _, ahead := range []string{"", " ", "%(\n\r", "\x00%%\r"} {
		for _, rest := range append(behind, "") {
			all := ahead + b + rest
			l := lex.New(spared(all))
			holds(t, what+", "+short(all), next(l), fault(len(ahead), e))
			holds(t, what+", "+short(all)+", once more", next(l), fault(len(ahead), e))
		}
	}
	everywhere(t, what, b)
}

// texts calls f with all texts of at most so many of some signs.
func texts(among string, longest int, f func(string)) {
	l := []string{""}
	for range longest + 1 {
		var longer []string
		for _, text := range l {
			f(text)
			for i := range len(among) {
				longer = append(longer, text+among[i:i+1])
			}
		}
		l = longer
	}
}

// byChance is a text of parts that are taken by chance.
func byChance(chance *rand.Rand, most int, among []string) string {
	var b strings.Builder
	for range chance.Intn(most + 1) {
		b.WriteString(among[chance.Intn(len(among))])
	}
	return b.String()
}
