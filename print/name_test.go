package print_test

import (
	"fmt"
	"strings"
	"testing"
)

// P13.1: Name.

func TestNames(t *testing.T) {
	for s, want := range map[string]string{
		"":              "/",
		"A":             "/A",
		" ":             "/#20",
		"!":             "/!",
		"~":             "/~",
		"\x7f":          "/#7f",
		"#":             "/#23",
		"#41":           "/#2341",
		"(":             "/#28",
		")":             "/#29",
		"<":             "/#3c",
		">":             "/#3e",
		"[":             "/#5b",
		"]":             "/#5d",
		"{":             "/#7b",
		"}":             "/#7d",
		"/":             "/#2f",
		"%":             "/#25",
		"\\":            "/\\",
		"\x00":          "/#00",
		"\t":            "/#09",
		"\n":            "/#0a",
		"\f":            "/#0c",
		"\r":            "/#0d",
		"\v":            "/#0b",
		"\xab\xcd\xef":  "/#ab#cd#ef",
		"\xc3\xa9":      "/#c3#a9",
		"x y":           "/x#20y",
		"a  b//":        "/a#20#20b#2f#2f",
		"Type":          "/Type",
		"A;B-C+D.E,F:G": "/A;B-C+D.E,F:G",
	} {
		holds(t, fmt.Sprintf("the name %q", s), name(s), came(want))
	}
}

func TestEachByteOfNames(t *testing.T) {
	plain := 0
	for c := range 256 {
		s := string([]byte{byte(c)})
		want := slowName(s)
		if len(want) == 2 {
			plain++
		}
		holds(t, fmt.Sprintf("the name of %d", c), name(s), came(want))
		holds(t, fmt.Sprintf("%d among others", c), name("a"+s+"#"+s+"1"), came("/a"+want[1:]+"#23"+want[1:]+"1"))
	}
	// From 33 to 126 without the ten delimiters and `#`.
	if plain != 94-11 {
		t.Errorf("%d bytes stand as they are", plain)
	}
}

// P13.1: Text.

func TestTexts(t *testing.T) {
	for s, want := range map[string]string{
		"":              "()",
		"a":             "(a)",
		" ":             "( )",
		"~":             "(~)",
		"\x1f":          "<1f>",
		"\x7f":          "<7f>",
		"\x80":          "<80>",
		"(":             "<28>",
		")":             "<29>",
		"\\":            "<5c>",
		"()":            "<2829>",
		"a)":            "<6129>",
		"\x00":          "<00>",
		"\n":            "<0a>",
		"\r\n":          "<0d0a>",
		"\xab\xcd\xef":  "<abcdef>",
		"<>[]{}/%#":     "(<>[]{}/%#)",
		"a text of old": "(a text of old)",
		"a text\tof":    "<612074657874096f66>",
	} {
		holds(t, fmt.Sprintf("the text %q", s), texted(s), came(want))
	}
}

func TestEachByteOfTexts(t *testing.T) {
	plain := 0
	for c := range 256 {
		s := string([]byte{byte(c)})
		want := slowText(s)
		if want == "("+s+")" {
			plain++
			holds(t, fmt.Sprintf("%d among others", c), texted("a"+s+" "+s), came("(a"+s+" "+s+")"))
		} else {
			digits := fmt.Sprintf("%02x", c)
			holds(t, fmt.Sprintf("%d among others", c), texted("a"+s+" "+s), came("<61"+digits+"20"+digits+">"))
			holds(t, fmt.Sprintf("%d ahead", c), texted(s+"ab"), came("<"+digits+"6162>"))
			holds(t, fmt.Sprintf("%d behind", c), texted("ab"+s), came("<6162"+digits+">"))
		}
		holds(t, fmt.Sprintf("the text of %d", c), texted(s), came(want))
	}
	// From 32 to 126 without brackets and `\`.
	if plain != 95-3 {
		t.Errorf("%d bytes stand as they are", plain)
	}
}

func TestNamesAndTextsByChance(t *testing.T) {
	c := newChance(132)
	for range 20000 {
		s := c.bytes(12)
		if c.Intn(10) == 0 {
			s += "\x00"
		}
		holds(t, fmt.Sprintf("the name %q", s), name(s), came(slowName(s)))
		holds(t, fmt.Sprintf("the text %q", s), texted(s), came(slowText(s)))
	}
}

// They take more than may be in an object (R6), and end (R1).

func TestLongNamesAndTexts(t *testing.T) {
	const n = 1 << 20
	for s, signs := range map[string]string{"a": "a", "#": "#23", "\xff": "#ff", "ab ": "ab#20", "\x00": "#00"} {
		holds(t, fmt.Sprintf("many %q", s), name(strings.Repeat(s, n)), came("/"+strings.Repeat(signs, n)))
	}
	for s, signs := range map[string]string{"\xff": "ff", "ab\n": "61620a", "(": "28"} {
		holds(t, fmt.Sprintf("many %q", s), texted(strings.Repeat(s, n)), came("<"+strings.Repeat(signs, n)+">"))
	}
	holds(t, "many signs", texted(strings.Repeat("ab ", n)), came("("+strings.Repeat("ab ", n)+")"))
	holds(t, "many signs, the last one a bracket", texted(strings.Repeat("a", n)+")"), came("<"+strings.Repeat("61", n)+"29>"))
}
