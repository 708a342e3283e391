package parse_test

import (
	"fmt"
	"strings"
	"testing"

	"pressmark/api"
	"pressmark/cos"
	"pressmark/parse"
)

// readsItem asks that b is an item, whatever blank stands ahead and whatever behind.
func readsItem(t *testing.T, b string, num int, o api.Obj) {
	t.Helper()
	for _, ahead := range []string{"", " ", "%(\n\r", "\x00%%\r"} {
		for _, behind := range []string{"", " ", "%x", "\n", "]", ">>", "/", "(", ")", "{", "\n2 0 obj"} {
			all := ahead + b + behind
			holds(t, fmt.Sprintf("%q", all), item(parse.New(spared(all), 28)), numbered(num, o, len(ahead)+len(b)))
		}
	}
	everywhere(t, b, 28)
}

// failsItem asks that b is no item, by an error at a place, whatever blank stands ahead, and whatever behind, if that does not count.
func failsItem(t *testing.T, b string, e api.Errno, at int, behind ...string) {
	t.Helper()
	for _, ahead := range []string{"", " ", "%(\n\r", "\x00%%\r"} {
		for _, rest := range append(behind, "") {
			all := ahead + b + rest
			p := parse.New(spared(all), 28)
			holds(t, fmt.Sprintf("%q", all), item(p), fault(e, len(ahead)+at))
			holds(t, fmt.Sprintf("%q, once more", all), item(p), slowItem(all, len(ahead)+at, 28))
		}
	}
	everywhere(t, b, 28)
}

// streamed is an item whose stream has this Length, an end of line, data and what is behind them; and where its data begin.
func streamed(length, line, behind string) (string, int) {
	ahead := "7 0 obj<</Length " + length + "/A 1>>stream" + line
	return ahead + behind, len(ahead)
}

// seven is an item's stream.
func seven(data string) api.Obj { return cos.Stream([]byte(data), cos.Pair("A", cos.Int(1))) }

// P12.2: an item of each kind.

func TestItems(t *testing.T) {
	for b, o := range map[string]api.Obj{
		"1":                      cos.Int(1),
		"-1.5":                   cos.Real(-150000),
		"(a)":                    cos.Str([]byte("a")),
		"<41>":                   cos.Str([]byte("A")),
		"/A":                     cos.Name("A"),
		"/":                      cos.Name(""),
		"true":                   cos.Bool(true),
		"false":                  cos.Bool(false),
		"null":                   cos.None(),
		"1 0 R":                  cos.Ref(1),
		"8388608":                cos.Int(8388608),
		"[]":                     cos.Arr(),
		"[1 0 R 2 0]":            cos.Arr(cos.Ref(1), cos.Int(2), cos.Int(0)),
		"<<>>":                   cos.Dict(),
		"<</B 1/A null>>":        cos.Dict(cos.Pair("B", cos.Int(1))),
		"<</Length 3>>":          cos.Dict(cos.Pair("Length", cos.Int(3))),
		"<</stream 1/endobj 2>>": cos.Dict(cos.Pair("endobj", cos.Int(2)), cos.Pair("stream", cos.Int(1))),
	} {
		readsItem(t, "1 0 obj "+b+" endobj", 1, o)
		readsItem(t, "12\n0%c\robj%c\n"+b+"%c\r\nendobj", 12, o)
		if strings.ContainsAny(b[:1], "(</[") && strings.ContainsAny(b[len(b)-1:], ")>]") {
			readsItem(t, "3 0 obj"+b+"endobj", 3, o)
		}
	}
}

func TestItemsNumbers(t *testing.T) {
	for b, num := range map[string]int{"1": 1, "2": 2, "8388606": 8388606, "8388607": 8388607, "+5": 5, "005": 5} {
		for _, second := range []string{"0", "00", "+0", "-0"} {
			readsItem(t, b+" "+second+" obj(a)endobj", num, cos.Str([]byte("a")))
		}
		for _, second := range []string{"1", "-1", "65535", "0.0", "0.", "null", "(0)", "/0", "[0]", "<<", "obj", "R", "]", ">>"} {
			failsItem(t, b+" "+second+" obj(a)endobj", api.ErrForm, len(b)+1)
			failsItem(t, b+"\n%c\n"+second+" obj(a)endobj", api.ErrForm, len(b)+4)
		}
	}
	for _, b := range []string{"0", "-0", "-1", "-8388607", "8388608", "2147483647", "1.0", "1.", ".5", "true", "null", "obj", "endobj", "(1)", "<31>", "/1", "[1", "[1]", "]", "<<", "<</A 1>>", ">>", "xref"} {
		failsItem(t, b+" 0 obj 5 endobj", api.ErrForm, 0)
	}
}

func TestItemsWords(t *testing.T) {
	for _, b := range []string{"Obj", "ob", "objx", "obj5", "R", "endobj", "stream", "true", "0", "1.5", "(obj)", "/obj", "[", "]", "<<", ">>"} {
		failsItem(t, "5 0 "+b+" 7 endobj", api.ErrForm, 4)
	}
	for _, b := range []string{"Endobj", "endob", "endobjx", "endobj5", "R", "obj", "stream", "endstream", "true", "7", "1.5", "(endobj)", "/endobj", "[", "]", "<<", ">>", "xref"} {
		for _, o := range []string{"(a)", "[]", "null", "/A", "1.5", "8 0 R", "<<>>"} {
			if b == "stream" && o == "<<>>" {
				continue
			}
			failsItem(t, "5 0 obj "+o+" "+b+" endobj", api.ErrForm, 9+len(o), "", " ", ")")
		}
	}
	// Of two numbers the first one is the object.
	for _, b := range []string{"7 0 endobj", "7 1 0 R endobj", "7 0 obj endobj", "7 7 endobj"} {
		failsItem(t, "5 0 obj "+b, api.ErrForm, 10)
	}
}

func TestItemsValues(t *testing.T) {
	// A Value's errors, at their places.
	for _, c := range []struct {
		b  string
		e  api.Errno
		at int
	}{
		{"endobj", api.ErrForm, 8},
		{"stream", api.ErrForm, 8},
		{"] endobj", api.ErrForm, 8},
		{">> endobj", api.ErrForm, 8},
		{"[1>> endobj", api.ErrForm, 10},
		{"<</A 1/A 2>> endobj", api.ErrForm, 14},
		{"<</Length 1/Length 1>>stream\na\nendstream endobj", api.ErrForm, 19},
		{"<</A>> endobj", api.ErrForm, 12},
		{"2147483648 endobj", api.ErrRange, 8},
		{"[2147483648] endobj", api.ErrRange, 9},
		{strings.Repeat("[", 29), api.ErrDepth, 36},
		{"(a endobj", api.ErrShort, 8},
		{"<4x> endobj", api.ErrForm, 8},
	} {
		failsItem(t, "5 0 obj "+c.b, c.e, c.at)
	}
}

func TestItemsEnd(t *testing.T) {
	for _, blank := range []string{"", " ", "%", "\n%x\r"} {
		for _, ahead := range []string{"", "5", "5 0", "5 0 obj", "5 0 obj 7", "5 0 obj 7 0", "5 0 obj 7 0 R", "5 0 obj[", "5 0 obj[]", "5 0 obj<<", "5 0 obj<</A", "5 0 obj<</A 1>>", "5 0 obj<</Length 1>>stream\na\nendstream", "5 0 obj<</Length 0>>stream\nendstream", "5 0 obj<</Length 1>>stream\na", "5 0 obj<</Length 1>>stream\na\n"} {
			if ahead == "5 0 obj 7 0" {
				failsItem(t, ahead+blank, api.ErrForm, 10)
				continue
			}
			all := ahead + blank
			holds(t, fmt.Sprintf("%q", all), item(parse.New(spared(all), 28)), fault(api.ErrShort, len(all)))
			everywhere(t, all, 28)
		}
	}
}

func TestItemsDepth(t *testing.T) {
	// What stands in an item may be as deep as a value, a stream's dictionary too.
	for depth := -1; depth < 30; depth++ {
		most := min(max(depth, 0), 28)
		for n := 1; n < 31; n++ {
			for _, b := range []string{"5 0 obj" + arrays(n) + "endobj", "5 0 obj" + turns(n) + "endobj", "5 0 obj<</Length 1/A" + arrays(n-1) + "/B 1>>stream\na\nendstream endobj"} {
				b = strings.Replace(strings.Replace(b, "/K>>", "/K 7>>", 1), "/A/B", "/A 1/B", 1)
				got := item(parse.New([]byte(b), depth))
				holds(t, fmt.Sprintf("%q, depth %d", b, depth), got, slowItem(b, 0, depth))
				if want := api.OK; n > most && got.e != api.ErrDepth || n <= most && got.e != want {
					t.Errorf("%q, depth %d: %v", b, depth, got.e)
				}
			}
		}
	}
}

// P12.2: streams.

func TestStreams(t *testing.T) {
	for _, data := range []string{"", "a", "abc", "\n", "\r", "\r\n", "\n\n", " ", "%", "endstream", "\nendstream\nendobj\n", "xendstream", "endstream endobj 8 0 obj", "\x00\xff(<[", "a\r", "a\n", "\ra", "stream\n", "1 0 R"} {
		for _, line := range []string{"\n", "\r\n"} {
			for _, behind := range []string{"\r\n", "\n", "\r", ""} {
				for _, end := range []string{" endobj", "\nendobj", "%c\rendobj", "\r\n%c\r\n\tendobj"} {
					b, _ := streamed(fmt.Sprint(len(data)), line, data+behind+"endstream"+end)
					holds(t, fmt.Sprintf("%q", b), item(parse.New(spared(b), 28)), numbered(7, seven(data), len(b)))
				}
			}
			b, _ := streamed(fmt.Sprint(len(data)), line, data+"\nendstream endobj")
			readsItem(t, b, 7, seven(data))
		}
	}
}

func TestStreamsEntries(t *testing.T) {
	// All but Length stay, wherever it stands; one in another dictionary stays, too.
	for b, o := range map[string]api.Obj{
		"<</Length 2>>":                        cos.Stream([]byte("ab")),
		"<</Length 2/A 1>>":                    cos.Stream([]byte("ab"), cos.Pair("A", cos.Int(1))),
		"<</B 1/Length 2/A 1 0 R>>":            cos.Stream([]byte("ab"), cos.Pair("A", cos.Ref(1)), cos.Pair("B", cos.Int(1))),
		"<</Z null/A<</Length 9>>/Length 2>>":  cos.Stream([]byte("ab"), cos.Pair("A", cos.Dict(cos.Pair("Length", cos.Int(9))))),
		"<</#4cength +2>>":                     cos.Stream([]byte("ab")),
		"<</Length 002/length 3/Length1 4>>":   cos.Stream([]byte("ab"), cos.Pair("length", cos.Int(3)), cos.Pair("Length1", cos.Int(4))),
		"<</A[1[2]]/Filter/X/Length 2/DL 3>> ": cos.Stream([]byte("ab"), cos.Pair("A", cos.Arr(cos.Int(1), cos.Arr(cos.Int(2)))), cos.Pair("Filter", cos.Name("X")), cos.Pair("DL", cos.Int(3))),
	} {
		for _, blank := range []string{"", " ", "\n", "%c\r\n"} {
			readsItem(t, "8 0 obj"+blank+b+blank+"stream\nab\nendstream"+blank+" endobj", 8, o)
		}
	}
}

func TestLinesBehindStream(t *testing.T) {
	for _, line := range []string{"\r", " ", "\t", "\x00", " \n", "%c\n", "\f\n", "\t\r\n"} {
		b, at := streamed("2", line, "ab\nendstream endobj")
		failsItem(t, b, api.ErrForm, at-len(line))
		b, at = streamed("2", line, "")
		failsItem(t, b, api.ErrForm, at-len(line))
		// It is met ahead of a Length that is wrong.
		b, at = streamed("(2)", line, "ab\nendstream endobj")
		failsItem(t, b, api.ErrForm, at-len(line))
		b, at = streamed("200", line, "ab\nendstream endobj")
		failsItem(t, b, api.ErrForm, at-len(line))
	}
	// Of 13 10 both are passed, of 10 13 only the 10, and so of 10 10.
	for line, data := range map[string]string{"\r\n": "ab", "\n": "ab", "\n\r": "\rab", "\n\n": "\nab", "\r\n\n": "\nab", "\r\n\r\n": "\r\nab", "\n ": " ab"} {
		b, _ := streamed(fmt.Sprint(len(data)), line, "ab\nendstream endobj")
		readsItem(t, b, 7, seven(data))
	}
	for _, line := range []string{"/A", "(a)", "[", "<", ">>", ")", "{"} {
		b, at := streamed("2", line, "ab\nendstream endobj")
		failsItem(t, b, api.ErrForm, at-len(line))
	}
	for _, length := range []string{"0", "2", "-1", "(2)"} {
		b, at := streamed(length, "", "")
		holds(t, b, item(parse.New(spared(b), 28)), fault(api.ErrShort, at))
		everywhere(t, b, 28)
	}
	// Another word than stream is none.
	b, at := streamed("2", "x", "ab\nendstream endobj")
	failsItem(t, b, api.ErrForm, at-len("streamx"))
}

func TestLengths(t *testing.T) {
	for _, line := range []string{"\n", "\r\n"} {
		for _, length := range []string{"-1", "-2147483647", "2.0", "2.", "7 0 R", "true", "null", "(2)", "<32>", "/2", "[2]", "<<>>"} {
			for _, behind := range []string{"ab\nendstream endobj", "", "\n", " endstream endobj", ")", "ab"} {
				b, at := streamed(length, line, behind)
				failsItem(t, b, api.ErrForm, at)
			}
		}
		for _, dict := range []string{"<<>>", "<</A 1>>", "<</length 2>>", "<</A<</Length 2>>>>"} {
			ahead := "7 0 obj" + dict + "stream" + line
			failsItem(t, ahead+"ab\nendstream endobj", api.ErrForm, len(ahead))
			failsItem(t, ahead, api.ErrForm, len(ahead))
		}
		for length, behind := range map[string]string{"1": "", "2": "a", "3": "ab", "23": "abcd\nendstream\nendobj", "22": "abcd\nendstream\nendobj", "2147483647": "ab\nendstream endobj"} {
			b, at := streamed(length, line, behind)
			holds(t, fmt.Sprintf("%q", b), item(parse.New(spared(b), 28)), fault(api.ErrShort, at))
			everywhere(t, b, 28)
		}
	}
}

func TestLengthsNearby(t *testing.T) {
	data := "abcd"
	for _, behind := range []string{"\n", "\r\n", "\r", ""} {
		b, at := streamed("4", "\n", data+behind+"endstream endobj")
		holds(t, b, item(parse.New(spared(b), 28)), numbered(7, seven(data), len(b)))
		for _, few := range []int{0, 1, 2, 3} {
			b, at = streamed(fmt.Sprint(few), "\n", data+behind+"endstream endobj")
			failsItem(t, b, api.ErrForm, at+few)
		}
		b, at = streamed("5", "\n", data+behind+"endstream endobj")
		if behind == "" {
			failsItem(t, b, api.ErrForm, at+5)
		} else {
			// The byte too many is one of the end of line, of which nothing needs be there.
			readsItem(t, b, 7, seven(data+behind[:1]))
		}
		b, at = streamed(fmt.Sprint(5+len(behind)), "\n", data+behind+"endstream endobj")
		failsItem(t, b, api.ErrForm, at+5+len(behind))
		b, at = streamed(fmt.Sprint(4+len(behind)+16), "\n", data+behind+"endstream endobj")
		holds(t, b, item(parse.New(spared(b), 28)), fault(api.ErrShort, at+4+len(behind)+16))
		b, at = streamed(fmt.Sprint(4+len(behind)+17), "\n", data+behind+"endstream endobj")
		holds(t, b, item(parse.New(spared(b), 28)), fault(api.ErrShort, at))
	}
	// Whatever the Length is, of bytes of which each could be an end.
	for n := range 60 {
		b, _ := streamed(fmt.Sprint(n), "\n", "\nendstream endobj\rendstream endobj endstream endobj")
		everywhere(t, b, 28)
	}
}

func TestBehindData(t *testing.T) {
	for _, blank := range []string{" ", "\n\n", "\n\r", " \n", "%c\n", "\t"} {
		// A word may have what is blank ahead of it.
		b, _ := streamed("2", "\n", "ab"+blank+"endstream endobj")
		readsItem(t, b, 7, seven("ab"))
	}
	for _, line := range []string{"\n", "\r\n", "\r", ""} {
		for _, c := range []string{"endobj", "x", "xendstream", "endstreamx", "Endstream", "stream", "endstream5", "5", "/endstream", "(endstream)", "[", "]", "<<", ">>", ")", "{"} {
			b, at := streamed("2", "\n", "ab"+line+c+" endobj")
			failsItem(t, b, api.ErrForm, at+2+len(line))
		}
	}
	for _, c := range []string{"endob", "endobjx", "x", "endstream", "5", "5 0 obj", "(", "/endobj", "[", "]", "<<", ">>", ")", "}", "stream\n"} {
		b, at := streamed("2", "\n", "ab\nendstream ")
		e := api.ErrForm
		if c == "(" {
			e = api.ErrShort
		}
		failsItem(t, b+c, e, at+13)
	}
}

func TestOthersWithStream(t *testing.T) {
	for _, b := range []string{"[]", "[<</Length 2>>]", "null", "7", "1.5", "(a)", "/A", "8 0 R", "true"} {
		ahead := "5 0 obj " + b + " "
		failsItem(t, ahead+"stream\nab\nendstream endobj", api.ErrForm, len(ahead))
		failsItem(t, ahead+"stream", api.ErrForm, len(ahead))
	}
}

func TestLexersErrorsInItems(t *testing.T) {
	// Where each token should stand, ahead of what else could be told there.
	ahead := []string{"", "5 ", "5 0 ", "5 0 obj ", "5 0 obj null ", "5 0 obj 7 ", "5 0 obj[] ", "5 0 obj<<>> ", "5 0 obj<</Length 2>>stream\nab\n", "5 0 obj<</Length 2>>stream\r\nab", "5 0 obj<</Length 2>>stream\nab\nendstream "}
	for _, a := range ahead {
		for b, e := range map[string]api.Errno{
			")":                                 api.ErrForm,
			"{":                                 api.ErrForm,
			"1a":                                api.ErrForm,
			"/#0":                               api.ErrForm,
			"<4x>":                              api.ErrForm,
			"2147483648":                        api.ErrRange,
			"-2147483648":                       api.ErrRange,
			"99999999999999999999":              api.ErrRange,
			"/" + strings.Repeat("n", 128):      api.ErrLong,
			strings.Repeat("w", 128):            api.ErrLong,
			"endobj" + strings.Repeat("w", 122): api.ErrLong,
		} {
			failsItem(t, a+b, e, len(a), "", " ", " 0 obj", ")")
		}
		failsItem(t, a+"(a", api.ErrShort, len(a), "", " endobj", "\\)")
		failsItem(t, a+"<41", api.ErrShort, len(a), "", " 0 ")
		long := a + "(" + strings.Repeat("t", 32768)
		holds(t, "a long text behind "+a, item(parse.New([]byte(long), 28)), fault(api.ErrLong, len(a)))
	}
}

// P12.2: all rows of few parts, and right items of which a part is another one, or one is too many, or too few.

func TestRowsOfFewParts(t *testing.T) {
	rows([]string{"5", "0", "obj", "endobj", "<<>>", "R"}, 6, func(b string) {
		holds(t, b, item(parse.New(spared(b), 28)), slowItem(b, 0, 28))
	})
	rows([]string{"5", "0", "stream\n", "endstream", "endobj", "<</Length 2>>", "ab", ")"}, 5, func(b string) {
		b = "7 0 obj" + b
		holds(t, b, item(parse.New(spared(b), 28)), slowItem(b, 0, 28))
	})
	rows([]string{"\n", "\r", "endstream", "endobj", "a", "%"}, 6, func(b string) {
		b = strings.ReplaceAll(b, " ", "")
		for _, length := range []string{"0", "1", "3"} {
			b := "7 0 obj<</Length " + length + ">>stream" + b
			holds(t, fmt.Sprintf("%q", b), item(parse.New(spared(b), 28)), slowItem(b, 0, 28))
		}
	})
}

func TestPartsOfItems(t *testing.T) {
	right := strings.Split("5| |0| |obj|<<|/A|[|1| |0| |R|]|/Length| |2|>>| |stream|\r|\n|a|b|\r|\n|endstream| |endobj", "|")
	among := append([]string{"", " ", "\n", "\r", "%", ")", "(", "(x)", "1.5", "R", "x", "3000000000", "/B", "true", "null", "[", "<<>>", "-1", "3", "1"}, right...)
	for i := range right {
		for _, part := range among {
			other := strings.Join(right[:i], "") + part
			rest := strings.Join(right[i+1:], "")
			for _, b := range []string{other, other + rest, other + right[i] + rest, other + part + rest} {
				holds(t, fmt.Sprintf("%q", b), item(parse.New(spared(b), 28)), slowItem(b, 0, 28))
			}
		}
		everywhere(t, strings.Join(right[:i], ""), 28)
	}
}
