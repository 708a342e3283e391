package lex_test

import (
	"fmt"
	"strings"
	"testing"

	"pressmark/api"
	"pressmark/fixed"
	"pressmark/lex"
)

// P11.1: the kinds' numbers.

func TestKinds(t *testing.T) {
	for want, kind := range []int{lex.End, lex.Whole, lex.Real, lex.Text, lex.Name, lex.Open, lex.Close, lex.Left, lex.Right, lex.Word} {
		if kind != want {
			t.Errorf("kind %d is %d", want, kind)
		}
	}
}

// P11.1: the chapter's example, and rows of tokens.

func TestExample(t *testing.T) {
	tokens(t, "the example", `/A#42 (x(y)\101)<4 1>-.5 obj`,
		row(lex.Name, "AB", 0, 5), row(lex.Text, "x(y)A", 6, 16), row(lex.Text, "A", 16, 21), number(lex.Real, -50000, 21, 24), row(lex.Word, "obj", 25, 28), end(28), end(28))
}

func TestRows(t *testing.T) {
	tokens(t, "nothing", "", end(0), end(0))
	tokens(t, "blank alone", " \n%x", end(4), end(4))
	tokens(t, "signs", "[]<<>>", sign(lex.Open, 0, 1), sign(lex.Close, 1, 2), sign(lex.Left, 2, 4), sign(lex.Right, 4, 6), end(6))
	tokens(t, "a stream's beginning", "12 0 obj%x\r\n<</Length 3/F[/A 1 0 R]>>stream\n",
		number(lex.Whole, 12, 0, 2), number(lex.Whole, 0, 3, 4), row(lex.Word, "obj", 5, 8), sign(lex.Left, 12, 14), row(lex.Name, "Length", 14, 21), number(lex.Whole, 3, 22, 23), row(lex.Name, "F", 23, 25), sign(lex.Open, 25, 26), row(lex.Name, "A", 26, 28), number(lex.Whole, 1, 29, 30), number(lex.Whole, 0, 31, 32), row(lex.Word, "R", 33, 34), sign(lex.Close, 34, 35), sign(lex.Right, 35, 37), row(lex.Word, "stream", 37, 43), end(44))
	tokens(t, "a page's signs", "BT/F1 12.5 Tf(a)Tj T*(b)'<63>\"ET",
		row(lex.Word, "BT", 0, 2), row(lex.Name, "F1", 2, 5), number(lex.Real, 1250000, 6, 10), row(lex.Word, "Tf", 11, 13), row(lex.Text, "a", 13, 16), row(lex.Word, "Tj", 16, 18), row(lex.Word, "T*", 19, 21), row(lex.Text, "b", 21, 24), row(lex.Word, "'", 24, 25), row(lex.Text, "c", 25, 29), row(lex.Word, "\"ET", 29, 32), end(32))
	tokens(t, "no blank between", "1/A(b)2<63>true[3]/B<</C>>", number(lex.Whole, 1, 0, 1), row(lex.Name, "A", 1, 3), row(lex.Text, "b", 3, 6), number(lex.Whole, 2, 6, 7), row(lex.Text, "c", 7, 11), row(lex.Word, "true", 11, 15), sign(lex.Open, 15, 16), number(lex.Whole, 3, 16, 17), sign(lex.Close, 17, 18), row(lex.Name, "B", 18, 20), sign(lex.Left, 20, 22), row(lex.Name, "C", 22, 24), sign(lex.Right, 24, 26), end(26))
	tokens(t, "an error behind others", "1 /A )2", number(lex.Whole, 1, 0, 1), row(lex.Name, "A", 2, 4), fault(5, api.ErrForm), fault(5, api.ErrForm))
	tokens(t, "three of each", "<<<>>>", sign(lex.Left, 0, 2), row(lex.Text, "", 2, 4), sign(lex.Right, 4, 6), end(6))
	tokens(t, "three of each, the other way", ">>><<<", sign(lex.Right, 0, 2), fault(2, api.ErrForm))
}

// P11.1: Open, Close, Left, Right, and what is none.

func TestSigns(t *testing.T) {
	only(t, "a sign", "[", lex.Open, 0, "")
	only(t, "a sign", "]", lex.Close, 0, "")
	only(t, "a sign", "<<", lex.Left, 0, "")
	only(t, "a sign", ">>", lex.Right, 0, "")
}

func TestWrongSigns(t *testing.T) {
	for _, b := range []string{")", "{", "}"} {
		refused(t, "a wrong sign", b, api.ErrForm, ")", ">", "}", "{}", " ", "a", "1", "/A", "%")
	}
	refused(t, "one bracket", ">", api.ErrForm, " >", "%\n>", "\x00>", "<", "<<", "]", "a", "/")
	refused(t, "brackets apart", "< <", api.ErrForm, "<", ">>", " >")
}

// P11.1: Words.

func TestWords(t *testing.T) {
	for _, b := range []string{"obj", "R", "true", "false", "null", "endobj", "stream", "endstream", "xref", "trailer", "startxref", "T*", "'", "\"", "b*", "a1", "a.5", "a-1", "a+", "e5", "#", "#4", "#41", "a#42", "a#", "#00", "\\", "\\n", "a\\", "~", "*", "@0", "d0", "d1", "BI", "ID", "EI", "\x7f", "\x80\xff", "\x0b", "\x01\x02", "é", "$,:;=?^_`|~!&"} {
		only(t, "a word", b, lex.Word, 0, b)
	}
}

func TestWordsByFirstSign(t *testing.T) {
	for c := range 256 {
		b := string([]byte{byte(c)})
		if !slowRegular(c) || strings.Contains("+-.0123456789", b) {
			continue
		}
		only(t, "a word of a sign", b, lex.Word, 0, b)
		only(t, "a word", b+"a"+b, lex.Word, 0, b+"a"+b)
	}
}

func TestWordsEnd(t *testing.T) {
	// Each byte that is not regular ends a word, each other one goes on with it.
	for c := range 256 {
		b := "ab" + string([]byte{byte(c)}) + "cd"
		want := row(lex.Word, b, 0, 5)
		if !slowRegular(c) {
			want = row(lex.Word, "ab", 0, 2)
		}
		tokens(t, "a word's end", b, want)
	}
}

func TestLongWords(t *testing.T) {
	for n := 1; n <= api.MaxName; n++ {
		tokens(t, "a word", strings.Repeat("w", n), row(lex.Word, strings.Repeat("w", n), 0, n), end(n))
	}
	most := strings.Repeat("w", api.MaxName)
	only(t, "the longest word", most, lex.Word, 0, most)
	only(t, "the longest word, of signs", strings.Repeat("#", api.MaxName), lex.Word, 0, strings.Repeat("#", api.MaxName))
	refused(t, "a word that is too long", most+"w", api.ErrLong, "w", " ", "(", ")", strings.Repeat("w", 500))
	refused(t, "a word that is too long", most+"\xff", api.ErrLong, " ")
}

// P11.1: Whole and Real.

func TestNumbers(t *testing.T) {
	for b, n := range map[string]int64{"0": 0, "00": 0, "7": 7, "007": 7, "+7": 7, "-7": -7, "-0": 0, "+0": 0, "10": 10, "2147483647": api.MaxInt, "-2147483647": -api.MaxInt, "+02147483647": api.MaxInt, strings.Repeat("0", 500) + "1": 1, "123456789": 123456789} {
		only(t, "a whole number", b, lex.Whole, n, "")
	}
	for b, n := range map[string]int64{"0.": 0, ".0": 0, "-.5": -50000, "+.5": 50000, ".5": 50000, "5.": 500000, "-5.": -500000, "1.5": 150000, "0.00001": 1, "0.000019": 1, "-0.000001": 0, "2147483647.99999": api.MaxInt*api.One + 99999, "-2147483647.999999": -api.MaxInt*api.One - 99999, "." + strings.Repeat("1", 500): 11111} {
		only(t, "a number", b, lex.Real, n, "")
	}
	for _, b := range []string{"+", "-", ".", "+.", "-.", "--1", "+-1", "1-", "1+1", "1.2.3", "..", "1..", "1a", "0x10", "1e5", "-a", ".a", "+true", "1#41", "-#", "1\xff", "1\x7f", "99999999999a", "- ", "1\"", "1'", "1\\"} {
		refused(t, "a wrong number", b, api.ErrForm, " ", "(", "/", "%", "]", ">")
	}
	for _, b := range []string{"2147483648", "-2147483648", "+2147483648", "2147483648.", "2147483648.0", "99999999999999999999", strings.Repeat("9", 500), "-" + strings.Repeat("9", 500) + ".5"} {
		refused(t, "a number that is too great", b, api.ErrRange, " ", "(", "/", "%", "]", ">")
	}
}

func TestNumbersAsFixed(t *testing.T) {
	texts("+-.19a", 5, func(b string) {
		if b == "" || b[0] == 'a' {
			return
		}
		n, whole, e := fixed.Parse([]byte(b))
		want := number(lex.Real, n, 0, len(b))
		if whole {
			want.Kind = lex.Whole
		}
		if e != api.OK {
			want = fault(0, e)
		}
		holds(t, b, next(lex.New(spared(b))), want)
		holds(t, b+"]", next(lex.New(spared(b+"]"))), want)
	})
}

func TestNumbersEnd(t *testing.T) {
	for c := range 256 {
		b := "12" + string([]byte{byte(c)}) + "34"
		switch {
		case c >= '0' && c <= '9':
			tokens(t, "a number's end", b, number(lex.Whole, int64(12034+100*(c-'0')), 0, 5))
		case c == '.':
			tokens(t, "a number's end", b, number(lex.Real, 1234000, 0, 5))
		case slowRegular(c):
			tokens(t, "a number's end", b, fault(0, api.ErrForm))
		default:
			tokens(t, "a number's end", b, number(lex.Whole, 12, 0, 2))
		}
	}
}

// P11.1: Names.

func TestNames(t *testing.T) {
	for b, name := range map[string]string{
		"/":              "",
		"/A":             "A",
		"/a":             "a",
		"/Name1":         "Name1",
		"/1":             "1",
		"/-.5":           "-.5",
		"/+":             "+",
		"/A#42":          "AB",
		"/#41":           "A",
		"/#41#42":        "AB",
		"/#4a#4A":        "JJ",
		"/#aF":           "\xaf",
		"/#fa#Fa#fA#FA":  "\xfa\xfa\xfa\xfa",
		"/#01":           "\x01",
		"/#10":           "\x10",
		"/#ff":           "\xff",
		"/#20":           " ",
		"/#23":           "#",
		"/#2341":         "#41",
		"/#23#34#31":     "#41",
		"/#2f#28#29#3c":  "/()<",
		"/#25#0a#0D#09":  "%\n\r\t",
		"/#410":          "A0",
		"/#41A":          "AA",
		"/A;_-*.$@B":     "A;_-*.$@B",
		"/\\n\\101":      "\\n\\101",
		"/\x80\xff\x7f":  "\x80\xff\x7f",
		"/é":             "é",
		"/true":          "true",
		"/'\"":           "'\"",
		"/\x01\x0b\x1f!": "\x01\x0b\x1f!",
	} {
		only(t, "a name", b, lex.Name, 0, name)
	}
	tokens(t, "names", "//A/ /B//", row(lex.Name, "", 0, 1), row(lex.Name, "A", 1, 3), row(lex.Name, "", 3, 4), row(lex.Name, "B", 5, 7), row(lex.Name, "", 7, 8), row(lex.Name, "", 8, 9), end(9))
	tokens(t, "a name's end", "/A#41(x)", row(lex.Name, "AA", 0, 5), row(lex.Text, "x", 5, 8), end(8))
}

func TestNamesByDigits(t *testing.T) {
	// All pairs of signs behind `#`: what both are told by is the slow lexer's.
	for c := range 256 {
		for d := range 256 {
			b := string([]byte{'/', 'A', '#', byte(c), byte(d), 'B'})
			holds(t, fmt.Sprintf("%q", b), next(lex.New(spared(b))), slowToken(b, 0))
		}
	}
	for c := 1; c < 256; c++ {
		only(t, "a name by digits", fmt.Sprintf("/#%02x", c), lex.Name, 0, string([]byte{byte(c)}))
		only(t, "a name by digits", fmt.Sprintf("/N#%02Xn", c), lex.Name, 0, "N"+string([]byte{byte(c)})+"n")
	}
}

func TestNamesEnd(t *testing.T) {
	for c := range 256 {
		b := "/ab" + string([]byte{byte(c)}) + "42"
		switch {
		case c == '#':
			tokens(t, "a name's end", b, row(lex.Name, "abB", 0, 6))
		case slowRegular(c):
			tokens(t, "a name's end", b, row(lex.Name, b[1:], 0, 6))
		default:
			tokens(t, "a name's end", b, row(lex.Name, "ab", 0, 3))
		}
	}
}

func TestWrongNames(t *testing.T) {
	for _, b := range []string{"/#", "/A#", "/#4", "/A#4", "/#g1", "/#1g", "/#-1", "/##41", "/#4#41", "/A#00", "/#00", "/#00A", "/A#41#", "/A#41#4", "/A#41#00"} {
		refused(t, "a wrong name", b, api.ErrForm, " ", "/", "(", " 41", "/41", "%41", "\n1", "\x001", ">1")
	}
}

func TestLongNames(t *testing.T) {
	for n := range api.MaxName + 1 {
		plain, told := strings.Repeat("n", n), strings.Repeat("#6e", n)
		tokens(t, "a name", "/"+plain, row(lex.Name, plain, 0, n+1), end(n+1))
		tokens(t, "a name by digits", "/"+told, row(lex.Name, plain, 0, 3*n+1), end(3*n+1))
		tokens(t, "a name of both", "/"+plain[:n/2]+told[:3*(n-n/2)], row(lex.Name, plain, 0, 1+n/2+3*(n-n/2)))
	}
	most, told := strings.Repeat("n", api.MaxName), strings.Repeat("#6e", api.MaxName)
	for _, b := range []string{"/" + most, "/" + told} {
		only(t, "the longest name", b, lex.Name, 0, most)
		refused(t, "a name that is too long", b+"n", api.ErrLong, " ", "n", "#", "#00", "#4", "#g1", "/", strings.Repeat("n", 500))
		refused(t, "a name that is too long", b+"#6e", api.ErrLong, " ", "#", "#00", "#4")
		// The byte too many does not come.
		refused(t, "a wrong name as long", b+"#", api.ErrForm, " ", "/", "#6e")
		refused(t, "a wrong name as long", b+"#4", api.ErrForm, " ", "/", "n")
		refused(t, "a wrong name as long", b+"#00", api.ErrForm, " ", "n", "#6e")
	}
	refused(t, "a wrong name that would be too long", "/#"+most+most, api.ErrForm)
	refused(t, "a wrong name that would be too long", "/"+most[1:]+"#00"+most, api.ErrForm)
	refused(t, "a name that is too long, and wrong behind", "/"+most+"n#00", api.ErrLong)
}
