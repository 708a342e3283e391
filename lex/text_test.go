package lex_test

import (
	"fmt"
	"math/rand"
	"strings"
	"testing"

	"pressmark/api"
	"pressmark/ascii"
	"pressmark/lex"
)

// P11.1: Texts in brackets.

func TestTexts(t *testing.T) {
	for b, text := range map[string]string{
		"()":              "",
		"(a)":             "a",
		"( )":             " ",
		"( a\t\x00\f )":   " a\t\x00\f ",
		"(%a)":            "%a",
		"(<41>)":          "<41>",
		"(/A#41[]{}<<>>)": "/A#41[]{}<<>>",
		"(\x80\xff\x7f)":  "\x80\xff\x7f",
		"(é)":             "é",
		// Pairs.
		"(())":         "()",
		"(()())":       "()()",
		"((()))":       "(())",
		"(a(b(c)d)e)":  "a(b(c)d)e",
		"(x(y)\\101)":  "x(y)A",
		"(\\((\\)))":   "((" + "))",
		"(\\()":        "(",
		"(\\))":        ")",
		"(\\(\\))":     "()",
		"(\\)\\()":     ")(",
		"(\\\\)":       "\\",
		"(\\\\(\\\\))": "\\(\\)",
		"(()\\()":      "()(",
		"(()\\))":      "())",
		"(\\050\\051)": "()",
		"(\\50(\\51))": "(())",
		// Behind a backslash.
		"(\\n\\r\\t\\b\\f)": "\n\r\t\b\f",
		"(\\N\\a\\v\\x\\%)": "Navx%",
		"(\\ \\\x00\\\t)":   " \x00\t",
		"(\\xff)":           "xff",
		"(\\\\n)":           "\\n",
		"(\\\\\\n)":         "\\\n",
		"(\\8\\9)":          "89",
		"(\\\xff\\\x80)":    "\xff\x80",
		// Digits.
		"(\\0)":               "\x00",
		"(\\7)":               "\x07",
		"(\\01)":              "\x01",
		"(\\001)":             "\x01",
		"(\\0001)":            "\x001",
		"(\\53)":              "+",
		"(\\053)":             "+",
		"(\\0053)":            "\x053",
		"(\\5a)":              "\x05a",
		"(\\53a)":             "+a",
		"(\\58)":              "\x058",
		"(\\538)":             "+8",
		"(\\377)":             "\xff",
		"(\\400)":             "\x00",
		"(\\501)":             "A",
		"(\\777)":             "\xff",
		"(\\7777)":            "\xff7",
		"(\\1\\1)":            "\x01\x01",
		"(\\1(\\1))":          "\x01(\x01)",
		"(\\1\n1)":            "\x01\n1",
		"(\\1 1)":             "\x01 1",
		"(\\12\\\n3)":         "\n3",
		"(\\081)":             "\x0081",
		"(\\245\\307\\24511)": "\xa5\xc7\xa511",
		// Ends of lines.
		"(\n)":           "\n",
		"(\r)":           "\n",
		"(\r\n)":         "\n",
		"(\n\r)":         "\n\n",
		"(\r\r)":         "\n\n",
		"(\n\n)":         "\n\n",
		"(\r\n\r\n)":     "\n\n",
		"(\r\r\n)":       "\n\n",
		"(a\rb\nc\r\nd)": "a\nb\nc\nd",
		"(\\\n)":         "",
		"(\\\r)":         "",
		"(\\\r\n)":       "",
		"(\\\n\r)":       "\n",
		"(\\\r\r)":       "\n",
		"(\\\n\n)":       "\n",
		"(\\\r\r\n)":     "\n",
		"(\\\r\n\n)":     "\n",
		"(\\\r\n\r\n)":   "\n",
		"(a\\\r\nb)":     "ab",
		"(a\\\rb\\\nc)":  "abc",
		"(\\\r\\\n)":     "",
		"(\r\\\n)":       "\n",
		"(\\\\\r\n)":     "\\\n",
		"(\\r\n)":        "\r\n",
		"(\\r\\n)":       "\r\n",
		"(\\\n\\\n\\\n)": "",
		"(\\12\\15)":     "\n\r",
		"(\\015\n)":      "\r\n",
		"(\r\\012)":      "\n\n",
	} {
		only(t, "a text", b, lex.Text, 0, text)
	}
	tokens(t, "texts", "()(a)(()) )", row(lex.Text, "", 0, 2), row(lex.Text, "a", 2, 5), row(lex.Text, "()", 5, 9), fault(10, api.ErrForm))
}

func TestTextsOfEachByte(t *testing.T) {
	for c := range 256 {
		b := string([]byte{byte(c)})
		want := b
		switch b {
		case "(", ")", "\\":
			continue
		case "\r":
			want = "\n"
		}
		only(t, "a byte", "("+b+")", lex.Text, 0, want)
		only(t, "bytes", "(a"+b+"b"+b+"c)", lex.Text, 0, "a"+want+"b"+want+"c")
	}
}

func TestTextsOfEachByteBehindBackslash(t *testing.T) {
	for c := range 256 {
		b := string([]byte{byte(c)})
		want := b
		switch {
		case b == "\r" || b == "\n":
			want = ""
		case c >= '0' && c <= '7':
			want = string([]byte{byte(c - '0')})
		}
		for i, letter := range "nrtbf" {
			if b == string(letter) {
				want = string([]byte{10, 13, 9, 8, 12}[i])
			}
		}
		only(t, "a byte behind a backslash", "(\\"+b+")", lex.Text, 0, want)
		only(t, "bytes behind backslashes", "(a\\"+b+"a\\"+b+"\\"+b+"a)", lex.Text, 0, "a"+want+"a"+want+want+"a")
	}
}

func TestTextsByDigits(t *testing.T) {
	for n := range 512 {
		want := string([]byte{byte(n)})
		only(t, "three digits", fmt.Sprintf("(\\%03o)", n), lex.Text, 0, want)
		only(t, "three digits and one", fmt.Sprintf("(\\%03o0)", n), lex.Text, 0, want+"0")
		if n < 64 {
			only(t, "two digits", fmt.Sprintf("(\\%02o)", n), lex.Text, 0, want)
			only(t, "two digits and another sign", fmt.Sprintf("(\\%02o8)", n), lex.Text, 0, want+"8")
		}
		if n < 8 {
			only(t, "a digit", fmt.Sprintf("(\\%o)", n), lex.Text, 0, want)
			only(t, "a digit and another sign", fmt.Sprintf("(\\%o9)", n), lex.Text, 0, want+"9")
		}
	}
}

func TestTextsOfFewSigns(t *testing.T) {
	for _, among := range []string{"()\\", "()\\\r\n", "(\\\r\n1)", "\\0178n)", "\\\r\na)"} {
		longest := 7
		if len(among) > 4 {
			longest = 5
		}
		texts(among, longest, func(b string) {
			holds(t, short("("+b), next(lex.New(spared("("+b))), slowToken("("+b, 0))
			holds(t, short("("+b+")"), next(lex.New(spared("("+b+")"))), slowToken("("+b+")", 0))
		})
	}
}

func TestTextsThatDoNotEnd(t *testing.T) {
	for _, b := range []string{"(", "(a", "(()", "(()(", "((", "(a)"[:2], "(\\)", "(\\", "(\\\\", "(\\1", "(\\12", "(\\123", "(\\\r", "(\\\r\n", "(\r", "(\n", "(a\\)b\\)", "(\\(()", "(%", "(\\\\\\)", "(()\\)", "(>", "(a>]", "(\x00"} {
		refused(t, "a text that does not end", b, api.ErrShort)
	}
}

// long is n bytes of a text, and what they say.
func long(n int) map[string]string {
	signs := "abc %<>[]{}/#089\x00\xff\t"
	var b []byte
	for i := range n {
		b = append(b, signs[i%len(signs)])
	}
	plain := string(b)
	half := n / 2
	return map[string]string{
		plain:                           plain,
		strings.Repeat("\\153", n):      strings.Repeat("k", n),
		strings.Repeat("\\(", n):        strings.Repeat("(", n),
		strings.Repeat("\r\n", n):       strings.Repeat("\n", n),
		strings.Repeat("\r", n-1) + "a": strings.Repeat("\n", n-1) + "a",
		strings.Repeat("(", half) + strings.Repeat(")", half) + plain[2*half:]: strings.Repeat("(", half) + strings.Repeat(")", half) + plain[2*half:],
		strings.Repeat("()", half) + plain[2*half:]:                            strings.Repeat("()", half) + plain[2*half:],
		strings.Repeat("a\\\r\n\\\r\\\n", n) + "\\\n":                          strings.Repeat("a", n),
		strings.Repeat("\\\n", 2*n) + plain + "\\\r\\\r\n":                     plain,
	}
}

func TestLongTexts(t *testing.T) {
	for _, n := range []int{1, 2, 127, 128, 255, 256, 257, 4096, api.MaxText - 1, api.MaxText} {
		for b, text := range long(n) {
			holds(t, fmt.Sprint("a text of ", n), next(lex.New(spared("("+b+")"))), row(lex.Text, text, 0, len(b)+2))
			holds(t, fmt.Sprint("a text of ", n, " that does not end"), next(lex.New(spared("("+b))), fault(0, api.ErrShort))
		}
	}
}

func TestTextsThatAreTooLong(t *testing.T) {
	for b := range long(api.MaxText) {
		// What comes behind the byte too many does not count; what is no byte is none too many.
		for _, more := range []string{"a", "\n", "\r", "\r\n", "\\1", "\\12", "\\000", "\\n", "\\(", "\\)", "\\\\", "(", "()", "\\\na", "\\\r\n\n", "\\8"} {
			for _, behind := range []string{"", ")", "))", "\\", ")x", strings.Repeat("b", 100)} {
				all := "(" + b + more + behind
				holds(t, short(all)+", and "+short(more+behind), next(lex.New(spared(all))), fault(0, api.ErrLong))
			}
		}
		for _, more := range []string{"", "\\", "\\\n", "\\\r", "\\\r\n", "\\\n\\"} {
			all := "(" + b + more
			holds(t, short(all)+", and "+short(more), next(lex.New(spared(all))), fault(0, api.ErrShort))
		}
	}
	holds(t, "far too long", next(lex.New([]byte(strings.Repeat("(", 1<<20)))), fault(0, api.ErrLong))
	holds(t, "far too long", next(lex.New([]byte(" ("+strings.Repeat("()", 1<<20)))), fault(1, api.ErrLong))
	many := strings.Repeat("\\\n", 1<<20)
	holds(t, "many ends of lines", next(lex.New([]byte("("+many+"a"+many+")"))), row(lex.Text, "a", 0, 2*len(many)+3))
}

// P11.1: Texts in digits.

func TestDigits(t *testing.T) {
	for b, text := range map[string]string{
		"<>":                                     "",
		"< \x00\t\n\f\r>":                        "",
		"<41>":                                   "A",
		"<4142>":                                 "AB",
		"<4>":                                    "@",
		"<414>":                                  "A@",
		"<0>":                                    "\x00",
		"<00>":                                   "\x00",
		"<4 1>":                                  "A",
		"<4 1 4>":                                "A@",
		"< 4\x001\t4\n2\f4\r3 >":                 "ABC",
		"<4\r\n1>":                               "A",
		"<4   >":                                 "@",
		"<aAbBcCdDeEfF>":                         "\xaa\xbb\xcc\xdd\xee\xff",
		"<0123456789abcdef>":                     "\x01\x23\x45\x67\x89\xab\xcd\xef",
		"<901FA3>":                               "\x90\x1f\xa3",
		"<901FA>":                                "\x90\x1f\xa0",
		"<28 29>":                                "()",
		"<0d0a>":                                 "\r\n",
		"<" + strings.Repeat("4\n1 ", 300) + ">": strings.Repeat("A", 300),
	} {
		only(t, "a text in digits", b, lex.Text, 0, text)
	}
	tokens(t, "texts in digits", "<41><>>>", row(lex.Text, "A", 0, 4), row(lex.Text, "", 4, 6), sign(lex.Right, 6, 8), end(8))
	tokens(t, "a text in digits, and one bracket", "<41>>", row(lex.Text, "A", 0, 4), fault(4, api.ErrForm))
	tokens(t, "ahead of a text in digits", "<<<41>>>", sign(lex.Left, 0, 2), row(lex.Text, "A", 2, 6), sign(lex.Right, 6, 8), end(8))
}

func TestDigitsOfEachByte(t *testing.T) {
	chance := rand.New(rand.NewSource(11))
	for c := range 256 {
		b := string([]byte{byte(c)})
		only(t, "a byte", fmt.Sprintf("<%02x>", c), lex.Text, 0, b)
		only(t, "a byte", fmt.Sprintf("<%02X41>", c), lex.Text, 0, b+"A")
		d := chance.Intn(256)
		only(t, "two bytes", fmt.Sprintf("<%02x %02x>", d, c), lex.Text, 0, string([]byte{byte(d), byte(c)}))
	}
	for c := range 256 {
		b := string([]byte{byte(c)})
		switch {
		case b == ">" || strings.Contains(whites, b) || ascii.Digit(c) >= 0:
			everywhere(t, "a sign among digits", "<"+b+"1>")
		case b == "<":
			tokens(t, "a bracket", "<<1>", sign(lex.Left, 0, 2))
		default:
			refused(t, "a wrong sign among digits", "<"+b, api.ErrForm, ">", "1>")
		}
		if ascii.Digit(c) < 0 && b != ">" && !strings.Contains(whites, b) {
			refused(t, "a wrong sign behind a digit", "<4"+b, api.ErrForm, ">", "1>")
			refused(t, "a wrong sign behind two", "<41"+b, api.ErrForm, ">", "1>")
			refused(t, "a wrong sign behind a white one", "< "+b, api.ErrForm, ">", "1>")
		}
	}
}

func TestDigitsOfFewSigns(t *testing.T) {
	texts("<>4F \nx", 5, func(b string) {
		holds(t, short("<"+b), next(lex.New(spared("<"+b))), slowToken("<"+b, 0))
	})
}

func TestDigitsThatDoNotEnd(t *testing.T) {
	for _, b := range []string{"<", "<4", "<41", "<414", "< ", "<4 ", "<\n", "<41\x00", "<" + strings.Repeat("4", 2*api.MaxText), "<" + strings.Repeat("4", 2*api.MaxText+1)} {
		holds(t, short(b), next(lex.New(spared(b))), fault(0, api.ErrShort))
		holds(t, short(" "+b), next(lex.New(spared(" "+b))), fault(1, api.ErrShort))
	}
}

func TestLongDigits(t *testing.T) {
	most := strings.Repeat("4b", api.MaxText)
	text := strings.Repeat("K", api.MaxText)
	for what, c := range map[string]struct {
		b, text string
		e       api.Errno
	}{
		"the longest":                              {most + ">", text, api.OK},
		"the longest, one digit left":              {most[:len(most)-1] + ">", text[1:] + "@", api.OK},
		"the longest, with white signs":            {strings.Repeat("4 b\n", api.MaxText) + " >", text, api.OK},
		"one byte less":                            {most[2:] + ">", text[1:], api.OK},
		"a digit too many":                         {most + "4>", "", api.ErrLong},
		"a digit too many, and white signs":        {most + " 4 >", "", api.ErrLong},
		"a byte too many":                          {most + "41>", "", api.ErrLong},
		"two bytes too many":                       {most + "4141>", "", api.ErrLong},
		"a byte too many, and no end":              {most + "41", "", api.ErrLong},
		"a byte too many, and a wrong sign":        {most + "41x>", "", api.ErrLong},
		"a byte too many, apart, and a wrong sign": {most + "4 1 x>", "", api.ErrLong},
		"no end":                                       {most, "", api.ErrShort},
		"a wrong sign":                                 {most + "x>", "", api.ErrForm},
		"a wrong sign ahead of a byte too many":        {most + "x41>", "", api.ErrForm},
		"a wrong sign at the beginning":                {"x" + most + "41>", "", api.ErrForm},
		"a digit of a byte too many, and no end":       {most + "4", "", api.ErrShort},
		"a digit of a byte too many, and a wrong sign": {most + "4x>", "", api.ErrForm},
	} {
		want := fault(0, c.e)
		if c.e == api.OK {
			want = row(lex.Text, c.text, 0, len(c.b)+1)
		}
		holds(t, what, next(lex.New(spared("<"+c.b))), want)
		holds(t, what+", the slow one", slowToken("<"+c.b, 0), want)
	}
	many := strings.Repeat(" ", 1<<20)
	holds(t, "many white signs", next(lex.New([]byte("<"+many+"4"+many+">"))), row(lex.Text, "@", 0, 2*len(many)+3))
	holds(t, "far too long", next(lex.New([]byte("<"+strings.Repeat("4", 1<<20)))), fault(0, api.ErrLong))
}
