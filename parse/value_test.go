package parse_test

import (
	"fmt"
	"math"
	"strings"
	"testing"

	"pressmark/api"
	"pressmark/cos"
	"pressmark/parse"
)

// deep is n arrays, or dictionaries, or both by turns, in one another.
func deep(n int, open, close [2]string) string {
	b, end := "", ""
	for i := range n {
		b += open[i%2]
		end = close[i%2] + end
	}
	return b + end
}

// How brackets stand in one another.
var (
	arrays = func(n int) string { return deep(n, [2]string{"[", "["}, [2]string{"]", "]"}) }
	dicts  = func(n int) string {
		return strings.Replace(deep(n, [2]string{"/K<<", "/K<<"}, [2]string{">>", ">>"}), "/K", "", 1)
	}
	turns  = func(n int) string { return deep(n, [2]string{"[", "<</K"}, [2]string{"]", ">>"}) }
	others = func(n int) string {
		return strings.TrimPrefix(deep(n, [2]string{"/K<</A 1/K", "["}, [2]string{">>", "]"}), "/K")
	}
)

// reads asks that b is an object, whatever blank stands ahead and whatever behind, and so in an array and as an entry's value.
func reads(t *testing.T, b string, o api.Obj) {
	t.Helper()
	for _, ahead := range []string{"", " ", "%(\n\r", "\x00%%\r"} {
		for _, behind := range []string{"", " ", "%x", "\n", "]", ">>", "/", "(", ")", "{", "<x", "[", " R", " 1 0 R", " 0 x", " 0R", " 0.0 R", " 00 r", "%\n0 Rx", "/R 0 R"} {
			all := ahead + b + behind
			holds(t, fmt.Sprintf("%q", all), value(parse.New(spared(all), 28)), came(o, len(ahead)+len(b)))
		}
	}
	within(t, b, o)
	everywhere(t, b, 28)
}

// within asks that b is an object alone, in an array and as an entry's value.
func within(t *testing.T, b string, o api.Obj) {
	t.Helper()
	for text, want := range map[string]api.Obj{
		" " + b + "%x":                     o,
		"[" + b + "]":                      cos.Arr(o),
		"[" + b + " " + b + "(a)]":         cos.Arr(o, o, cos.Str([]byte("a"))),
		"<</K " + b + ">>":                 cos.Dict(cos.Pair("K", o)),
		"<</K " + b + "/A " + b + "/B 3>>": cos.Dict(cos.Pair("A", o), cos.Pair("K", o), cos.Pair("B", cos.Int(3))),
		"[<</K[" + b + " null]>>]":         cos.Arr(cos.Dict(cos.Pair("K", cos.Arr(o, cos.None())))),
	} {
		if cos.Depth(o) <= 25 {
			holds(t, fmt.Sprintf("%q", text), all(text, 28), answer{obj: show(want)})
		}
	}
}

// fails asks that b is an error at a place, whatever blank stands ahead, and whatever behind, if that does not count.
func fails(t *testing.T, b string, e api.Errno, at int, behind ...string) {
	t.Helper()
	for _, ahead := range []string{"", " ", "%(\n\r", "\x00%%\r"} {
		for _, rest := range append(behind, "") {
			all := ahead + b + rest
			p := parse.New(spared(all), 28)
			holds(t, fmt.Sprintf("%q", all), value(p), fault(e, len(ahead)+at))
			holds(t, fmt.Sprintf("%q, once more", all), value(p), first(slowValue(all, len(ahead)+at, 28)))
		}
	}
	everywhere(t, b, 28)
}

// failsWithin asks that b, which is an error at its beginning, is one in arrays and dictionaries too.
func failsWithin(t *testing.T, b string, e api.Errno, behind ...string) {
	t.Helper()
	fails(t, b, e, 0, behind...)
	for _, ahead := range []string{"[", "[1 ", "[1 0 R ", "[[]", "[1 0 ", "<</K ", "<</A 1/K ", "[<</K[", "<</A<</A 1>>/B[]/C "} {
		fails(t, ahead+b, e, len(ahead), behind...)
	}
}

// New: how deep.

func TestDepth(t *testing.T) {
	for depth, most := range map[int]int{math.MinInt: 0, -1 << 31: 0, -1: 0, 0: 0, 1: 1, 2: 2, 3: 3, 27: 27, 28: 28, 29: 28, 30: 28, 1000: 28, 1 << 31: 28, math.MaxInt: 28} {
		for what, brackets := range map[string]func(int) string{"arrays": arrays, "dictionaries": dicts, "both": turns, "both, the other way": others} {
			for n := 1; n <= 40; n++ {
				b := strings.Replace(brackets(n), "/K>>", "/K 7>>", 1)
				p := parse.New([]byte(b), depth)
				got := value(p)
				what := fmt.Sprintf("%s, %d deep, depth %d", what, n, depth)
				holds(t, what, got, first(slowValue(b, 0, depth)))
				if (got.e == api.OK) != (n <= most) || n > most && got.e != api.ErrDepth {
					t.Errorf("%s: %v", what, got.e)
				}
				holds(t, what+", All", all(b, depth), answer{obj: got.obj, e: got.e})
			}
		}
	}
}

func TestDepthOfPlaces(t *testing.T) {
	// The bracket that is one too deep, whatever stands behind it; ahead of it others may close and open again.
	for b, at := range map[string]int{
		"[[[":                     2,
		"[[[)":                    2,
		"[[ [":                    3,
		"[[%[\n[]]]":              5,
		"[[][][]<<>>[1 2[":        15,
		"[[][][]<<>>[1 2<</A":     15,
		"<</A[<<":                 5,
		"<</A<</B 1>>/C<</D[]>>":  18,
		"<</A[]/A[[]]>>":          6,
		"[<</A/B>><</A/B/B<<>>>>": 17,
	} {
		want := fault(api.ErrDepth, at)
		if strings.Contains(b, "/A[]/A") {
			want = fault(api.ErrForm, at)
		}
		holds(t, b, value(parse.New([]byte(b), 2)), want)
		everywhere(t, b, 2)
	}
	for _, depth := range []int{-5, 0} {
		for _, b := range []string{"[", "[]", "<<", "<<>>", "<</A 1>>", "[)", "<<)"} {
			holds(t, b, value(parse.New([]byte(" "+b), depth)), fault(api.ErrDepth, 1))
			everywhere(t, b, depth)
		}
		for _, b := range []string{"1", "1 0 R", "/A", "(a)", "<41>", "null", "1.5"} {
			if a := all(b, depth); a.e != api.OK {
				t.Errorf("%s, depth %d: %v", b, depth, a.e)
			}
		}
	}
}

func TestDepthStaysFromCallToCall(t *testing.T) {
	// Each call may go as deep as the one ahead of it.
	one := "[<<>>]"
	p := parse.New([]byte(strings.Repeat(one, 50)+"[[[]]]"), 2)
	for i := range 50 {
		holds(t, fmt.Sprint("value ", i), value(p), came(cos.Arr(cos.Dict()), (i+1)*len(one)))
	}
	for range 50 {
		holds(t, "too deep", value(p), fault(api.ErrDepth, 50*len(one)+2))
		p.Seek(50 * len(one))
	}
	p.Seek(50*len(one) + 1)
	holds(t, "not too deep", value(p), came(cos.Arr(cos.Arr()), 50*len(one)+5))
}

// P12.1: each kind of object.

func TestNumbers(t *testing.T) {
	for b, n := range map[string]int{"0": 0, "1": 1, "7": 7, "-1": -1, "+1": 1, "007": 7, "-0": 0, "+0": 0, "8388607": 8388607, "8388608": 8388608, "2147483647": math.MaxInt32, "-2147483647": -math.MaxInt32, "00000000000000000000001": 1} {
		reads(t, b, cos.Int(n))
	}
	for b, n := range map[string]int64{"0.": 0, ".5": 50000, "-.5": -50000, "1.0": 100000, "1.": 100000, "-1.25": -125000, "+3.141592653": 314159, "2147483647.99999": math.MaxInt32*100000 + 99999, "-2147483647.999999": -math.MaxInt32*100000 - 99999, "-.0": 0} {
		reads(t, b, cos.Real(n))
	}
}

func TestTextsAndNames(t *testing.T) {
	for b, text := range map[string]string{"()": "", "(a)": "a", "(x(y)\\101)": "x(y)A", "(1 0 R)": "1 0 R", "(])": "]", "<>": "", "<4 1>": "A", "<414>": "A@", "<00ff>": "\x00\xff", "(>>)": ">>", "(true)": "true"} {
		reads(t, b, cos.Str([]byte(text)))
	}
	for b, name := range map[string]string{"/": "", "/A": "A", "/A#42": "AB", "/true": "true", "/null": "null", "/R": "R", "/1": "1", "/#20#ff": " \xff", "/" + strings.Repeat("n", 127): strings.Repeat("n", 127)} {
		within(t, b, cos.Name(name))
		holds(t, b, value(parse.New(spared(b+"]"), 0)), came(cos.Name(name), len(b)))
		everywhere(t, b, 28)
	}
	most := strings.Repeat("t", 32767)
	holds(t, "the longest text", all("("+most+")", 0), answer{obj: show(cos.Str([]byte(most)))})
	holds(t, "a longer text", value(parse.New([]byte(" ("+most+"t)"), 0)), fault(api.ErrLong, 1))
}

func TestConstants(t *testing.T) {
	reads(t, "true", cos.Bool(true))
	reads(t, "false", cos.Bool(false))
	within(t, "null", cos.None())
	holds(t, "null", value(parse.New([]byte(" null]"), 0)), came(cos.None(), 5))
	everywhere(t, "null", 28)
	for _, b := range []string{"True", "FALSE", "nul", "nulll", "true1", "true#20", "t", "RR", "r", "obj", "endobj", "stream", "endstream", "xref", "trailer", "'", "\"", "\xff", "NULL", "f", "n", "nan", "inf"} {
		failsWithin(t, b, api.ErrForm, " ", "]", ">>", " 1", ")")
	}
}

func TestArrays(t *testing.T) {
	reads(t, "[]", cos.Arr())
	reads(t, "[ %]\n]", cos.Arr())
	reads(t, "[1]", cos.Arr(cos.Int(1)))
	reads(t, "[null]", cos.Arr(cos.None()))
	reads(t, "[null null]", cos.Arr(cos.None(), cos.None()))
	reads(t, "[1 0 R 2 0 null]", cos.Arr(cos.Ref(1), cos.Int(2), cos.Int(0), cos.None()))
	reads(t, "[/A/A/B(a)<42>1 1.5/true%]\nfalse/]", cos.Arr(cos.Name("A"), cos.Name("A"), cos.Name("B"), cos.Str([]byte("a")), cos.Str([]byte("B")), cos.Int(1), cos.Real(150000), cos.Name("true"), cos.Bool(false), cos.Name("")))
	reads(t, "[[][[]][[[]]1]2]", cos.Arr(cos.Arr(), cos.Arr(cos.Arr()), cos.Arr(cos.Arr(cos.Arr()), cos.Int(1)), cos.Int(2)))
	reads(t, "[<<>><</A 1>>[]]", cos.Arr(cos.Dict(), cos.Dict(cos.Pair("A", cos.Int(1))), cos.Arr()))
}

func TestDictionaries(t *testing.T) {
	one := cos.Pair("A", cos.Int(1))
	for b, o := range map[string]api.Obj{
		"<<>>":                           cos.Dict(),
		"<< %>>\n>>":                     cos.Dict(),
		"<</A 1>>":                       cos.Dict(one),
		"<</A%c\r1 >>":                   cos.Dict(one),
		"<</#41 1>>":                     cos.Dict(one),
		"<</A/B/C/D>>":                   cos.Dict(cos.Pair("A", cos.Name("B")), cos.Pair("C", cos.Name("D"))),
		"<</A/A/B/A>>":                   cos.Dict(cos.Pair("A", cos.Name("A")), cos.Pair("B", cos.Name("A"))),
		"<</ 1>>":                        cos.Dict(cos.Pair("", cos.Int(1))),
		"<<//>>":                         cos.Dict(cos.Pair("", cos.Name(""))),
		"<</B 1/A null>>":                cos.Dict(cos.Pair("B", cos.Int(1))),
		"<</A null>>":                    cos.Dict(),
		"<</A null/B null/C null>>":      cos.Dict(),
		"<</A[null]/B<</C null>>>>":      cos.Dict(cos.Pair("A", cos.Arr(cos.None())), cos.Pair("B", cos.Dict())),
		"<</A 1/B 2 0 R/C true>>":        cos.Dict(one, cos.Pair("B", cos.Ref(2)), cos.Pair("C", cos.Bool(true))),
		"<</A 1 0 R/B 2>>":               cos.Dict(cos.Pair("A", cos.Ref(1)), cos.Pair("B", cos.Int(2))),
		"<</Length 5/Type/Page>>":        cos.Dict(cos.Pair("Length", cos.Int(5)), cos.Pair("Type", cos.Name("Page"))),
		"<</A<</A<</A 1>>>>>>":           cos.Dict(cos.Pair("A", cos.Dict(cos.Pair("A", cos.Dict(one))))),
		"<</A<</B null>>/B<</A null>>>>": cos.Dict(cos.Pair("A", cos.Dict()), cos.Pair("B", cos.Dict())),
		"<</A[<</A 1>><</A 1>>]/B 1>>":   cos.Dict(cos.Pair("A", cos.Arr(cos.Dict(one), cos.Dict(one))), cos.Pair("B", cos.Int(1))),
		"<</a 1/A 2/#c3 3>>":             cos.Dict(cos.Pair("a", cos.Int(1)), cos.Pair("A", cos.Int(2)), cos.Pair("\xc3", cos.Int(3))),
		"<</" + strings.Repeat("k", 127) + " 1>>": cos.Dict(cos.Pair(strings.Repeat("k", 127), cos.Int(1))),
	} {
		reads(t, b, o)
	}
}

func TestEntriesRise(t *testing.T) {
	// Whatever their order is, they stand by rising keys, by bytes.
	keys := []string{"", "#01", "A", "AA", "AB", "B", "a", "#80", "#ff"}
	for turn := range len(keys) {
		for step := range len(keys) {
			b, at := "<<", turn
			l := []api.Entry{}
			for i := range keys {
				if at%len(keys) == i && step == 0 {
					at++
				}
				key := keys[(turn+i*(1+step))%len(keys)]
				if strings.Contains(b, "/"+key+"(") {
					continue
				}
				b += "/" + key + "(" + fmt.Sprint(i) + ")"
				name := strings.NewReplacer("#01", "\x01", "#80", "\x80", "#ff", "\xff").Replace(key)
				l = append(l, cos.Pair(name, cos.Str([]byte(fmt.Sprint(i)))))
			}
			holds(t, b, all(b+">>", 1), answer{obj: show(cos.Dict(l...))})
		}
	}
}

// P12.1: Refs.

func TestRefs(t *testing.T) {
	for b, n := range map[string]int{
		"1 0 R":                      1,
		"2 0 R":                      2,
		"8388607 0 R":                8388607,
		"+1 0 R":                     1,
		"01 0 R":                     1,
		"1 00 R":                     1,
		"1 +0 R":                     1,
		"1 -0 R":                     1,
		"1 0000000000000 R":          1,
		"1\n0\rR":                    1,
		"1%c\n0%R\r\nR":              1,
		"1%\n%\n 0\x00\t\f R":        1,
		"1%1 0 R\n%\r0% R\n%%%\n  R": 1,
	} {
		within(t, b, cos.Ref(n))
		everywhere(t, b, 28)
		for _, behind := range []string{"", " ", "]", ">>", "/A", "(", "[", "%", "\n", "{", " 0 R", " R"} {
			holds(t, b+behind, value(parse.New(spared(" "+b+behind), 0)), came(cos.Ref(n), 1+len(b)))
		}
	}
}

func TestNoRefs(t *testing.T) {
	for _, n := range []string{"0", "-0", "+0", "-1", "-7", "8388608", "2147483647", "-2147483647"} {
		b := n + " 0 R"
		o := map[string]int{"0": 0, "-0": 0, "+0": 0, "-1": -1, "-7": -7, "8388608": 8388608, "2147483647": math.MaxInt32, "-2147483647": -math.MaxInt32}[n]
		holds(t, b, value(parse.New(spared(b), 0)), came(cos.Int(o), len(n)))
		holds(t, "All of "+b, all(b, 0), answer{obj: "Null", e: api.ErrLong})
		// The 0 is a number, too, and the R no value.
		fails(t, "["+b+"]", api.ErrForm, len(n)+4)
		everywhere(t, b, 28)
	}
	for _, b := range []string{"1 1 R", "1 -1 R", "1 0.0 R", "1 0. R", "1 (0) R", "1 /0 R", "1 null R", "1 0 r", "1 0 RR", "1 0 R1", "1 0 R#20", "1 0 obj", "1 0 true", "1 0 (R)", "1 0 /R", "1 0 [R", "1 0", "1 0 ", "1 0%R", "1 0 %R\n", "1", "1 ", "1%0 R", "1 R", "1 65535 R", "1 0 0 R", "1 [0 R]", "1 0 <52>", "1 0R", "1 0x R", "1 0 )", "1 )", "1 (", "1 0 (", "1 99999999999 R", "1 0 {R", "1 <", "1 0 '", "1 #", "1 /#"} {
		holds(t, b, value(parse.New(spared(b), 28)), came(cos.Int(1), 1))
		holds(t, b, value(parse.New(spared("%\n"+b), 28)), came(cos.Int(1), 3))
		everywhere(t, b, 28)
		everywhere(t, "["+b+"]", 28)
		everywhere(t, "<</A "+b+">>", 28)
	}
	for _, b := range []string{"1.0 0 R", "1. 0 R", "(1) 0 R", "/1 0 R", "true 0 R", "null 0 R", "[1] 0 R"} {
		p := parse.New([]byte("["+b+"]"), 28)
		holds(t, b, value(p), fault(api.ErrForm, len(b)))
	}
}

func TestTwoNumbersInArrays(t *testing.T) {
	// Two that make no Ref are each itself, and what stands behind them is read as it is.
	one, null := cos.Int(1), cos.Int(0)
	for b, o := range map[string]api.Obj{
		"[1 0]":               cos.Arr(one, null),
		"[1 0 1 0 R]":         cos.Arr(one, null, cos.Ref(1)),
		"[1 1 0 R]":           cos.Arr(one, cos.Ref(1)),
		"[1 0 0]":             cos.Arr(one, null, null),
		"[1 0 /R]":            cos.Arr(one, null, cos.Name("R")),
		"[1 0 (R)]":           cos.Arr(one, null, cos.Str([]byte("R"))),
		"[1 0 true]":          cos.Arr(one, null, cos.Bool(true)),
		"[1 0[1 0 R]]":        cos.Arr(one, null, cos.Arr(cos.Ref(1))),
		"[1[0]]":              cos.Arr(one, cos.Arr(null)),
		"[1 0<</R 1 0 R>>]":   cos.Arr(one, null, cos.Dict(cos.Pair("R", cos.Ref(1)))),
		"[1 0 R 0 R2 0 R]":    api.Obj{},
		"[1 0 R 0 2 0 R 1 0]": cos.Arr(cos.Ref(1), null, cos.Ref(2), one, null),
		"[1 0 R 1 0 R]":       cos.Arr(cos.Ref(1), cos.Ref(1)),
		"[1 2 3 4 0 R 5 6]":   cos.Arr(one, cos.Int(2), cos.Int(3), cos.Ref(4), cos.Int(5), cos.Int(6)),
		"[0 0 1 0 R]":         cos.Arr(null, null, cos.Ref(1)),
		"[1 0 .5]":            cos.Arr(one, null, cos.Real(50000)),
	} {
		if o.Kind == api.Null {
			fails(t, b, api.ErrForm, 9)
			continue
		}
		reads(t, b, o)
	}
}

// P12.1: a name twice.

func TestNamesTwice(t *testing.T) {
	for b, at := range map[string]int{
		"<</A 1/A 2>>":               6,
		"<</A 1/A 1>>":               6,
		"<</A null/A 1>>":            9,
		"<</A 1/A null>>":            6,
		"<</A null/A null>>":         9,
		"<</A 1 /A":                  7,
		"<</A 1%\n/A)":               8,
		"<</A 1/A>>":                 6,
		"<</A 1/A[[":                 6,
		"<</A 1/#41 2>>":             6,
		"<</#41 1/A 2>>":             8,
		"<</A/A/A/B>>":               6,
		"<</A 1/B 2/C 3/B 4/A 5>>":   14,
		"<</ 1/ 2>>":                 5,
		"<<//// 1>>":                 4,
		"<</B null/A 1/B":            13,
		"<</A<</A 1>>/A 1>>":         12,
		"<</A<</B 1/C 2/B 3>>/A 1>>": 14,
		"[<</A 1>><</A 1/A 2>>]":     15,
		"<</A[<</A 1/A 2>>]/A 3>>":   11,
		"<</a 1/A 2/a 3>>":           10,
		"<</A 1 0 R/A 1>>":           10,
	} {
		fails(t, b, api.ErrForm, at)
	}
}

// P12.1: what may not stand there.

func TestTokensThatMayNotStand(t *testing.T) {
	for _, b := range []string{"]", ">>", "]]", ">>>>", "] 1", ">> 1"} {
		fails(t, b, api.ErrForm, 0)
	}
	for b, at := range map[string]int{
		"R":           0,
		"[>>":         1,
		"[1>>":        2,
		"[1 0 R >>]":  7,
		"[[]>>]":      3,
		"[<<>>>>]":    5,
		"[x]":         1,
		"[1 R]":       3,
		"[R]":         1,
		"[1 2 0 obj]": 7,
		"[endobj":     1,
		"<<]":         2,
		"<</A]":       4,
		"<</A 1]":     6,
		"<</A 1 0 R]": 10,
		"<</A>>":      4,
		"<</A 1/B>>":  8,
		"<</A/B/C>>":  8,
		"<</A x>>":    5,
		"<</A R>>":    5,
		"<<1":         2,
		"<<1 2>>":     2,
		"<<(A) 1>>":   2,
		"<<<41> 1>>":  2,
		"<<null>>":    2,
		"<<[]>>":      2,
		"<<<<>>":      2,
		"<<1.5 2>>":   2,
		"<<true 1>>":  2,
		"<<A 1>>":     2,
		"<</A 1 2>>":  7,
		"<</A 1(B)2":  6,
		"<</A 1[]>>":  6,
		"<</A 1<<>>":  6,
		"<</A 1 B 2":  7,
		"<</A 1 0>>":  7,
		"<</A 1 0 x":  7,
		"<</A 0 0 R":  7,
		"<</A[]]>>":   6,
		"<</A[>>]":    5,
		"[[1]2]]x":    -1,
		"<</A<</B]":   8,
		"[ %c\n >>":   6,
		"<< %c\n ]":   7,
	} {
		if at < 0 {
			holds(t, b, value(parse.New([]byte(b), 28)), came(cos.Arr(cos.Arr(cos.Int(1)), cos.Int(2)), 6))
			continue
		}
		fails(t, b, api.ErrForm, at, " ", ")", "]", ">>")
	}
}

func TestTheEnd(t *testing.T) {
	for _, b := range []string{"", " ", "%", "%x", " %1\n\r ", "\x00"} {
		holds(t, fmt.Sprintf("%q", b), value(parse.New(spared(b), 28)), fault(api.ErrShort, len(b)))
		everywhere(t, b, 28)
		for _, ahead := range []string{"[", "[1", "[1 0", "[1 0 R", "[/A", "[[]", "[[", "<<", "<</A", "<</A 1", "<</A 1 0 R", "<</A 1/B", "<</A null", "[<<>>", "<</A[]", "<</A<</B", "[(a)", "[<</A 1>>"} {
			all := ahead + b
			holds(t, fmt.Sprintf("%q", all), value(parse.New(spared(all), 28)), fault(api.ErrShort, len(all)))
			everywhere(t, all, 28)
		}
	}
}

func TestLexersErrors(t *testing.T) {
	for b, e := range map[string]api.Errno{
		")":                            api.ErrForm,
		">":                            api.ErrForm,
		"{":                            api.ErrForm,
		"}":                            api.ErrForm,
		"1a":                           api.ErrForm,
		"1.2.3":                        api.ErrForm,
		"-":                            api.ErrForm,
		"/#4":                          api.ErrForm,
		"/a#00":                        api.ErrForm,
		"<4x>":                         api.ErrForm,
		"2147483648":                   api.ErrRange,
		"-2147483648.5":                api.ErrRange,
		"99999999999999999999":         api.ErrRange,
		"/" + strings.Repeat("n", 128): api.ErrLong,
		strings.Repeat("w", 128):       api.ErrLong,
	} {
		failsWithin(t, b, e, " ", "]", ">>", " 0 R")
		asKey(t, b, e)
	}
	for _, b := range []string{"(", "(a", "(a\\)", "<", "<4"} {
		failsWithin(t, b, api.ErrShort)
		asKey(t, b, api.ErrShort)
	}
	long := "(" + strings.Repeat("t", 32768)
	for _, ahead := range []string{"", "[", "<</A ", "<<", "<</A 1", "[1 0 "} {
		holds(t, "a long text behind "+ahead, value(parse.New([]byte(ahead+long+")"), 28)), fault(api.ErrLong, len(ahead)))
	}
}

// asKey asks that b is an error where a name should stand.
func asKey(t *testing.T, b string, e api.Errno) {
	t.Helper()
	for _, ahead := range []string{"<<", "<</A 1 ", "<</A 1 0 R ", "<</A[]", "[<</A<<"} {
		fails(t, ahead+b, e, len(ahead))
	}
}

// P12.1: all rows of few tokens, and rows by chance.

func TestRowsOfFewTokens(t *testing.T) {
	for _, among := range [][]string{
		{"1", "0", "R"},
		{"[", "]", "1", "0", "R"},
		{"<<", ">>", "/A", "/B", "null", "1"},
		{"<<", ">>", "/A", "[", "]", "0"},
		{"[", "]", "<<", ">>", "/A", "x", ")", "null"},
		{"1", "0", "R", "]", ">>", "/A", "(a)", "1.5", "true", "{"},
	} {
		longest := 6
		if len(among) > 5 {
			longest = 4
		}
		ahead := []string{"", "[", "<<", "<</B ", "[<</A["}
		rows(among, longest, func(b string) {
			for _, in := range ahead {
				b := in + b
				for _, depth := range []int{1, 28} {
					holds(t, fmt.Sprintf("%q, depth %d", b, depth), value(parse.New(spared(b), depth)), first(slowValue(b, 0, depth)))
				}
				holds(t, fmt.Sprintf("%q, All", b), all(b, 28), slowAll(b, 28))
			}
		})
	}
}

func TestRowsOfBytes(t *testing.T) {
	for c := range 256 {
		for d := range 256 {
			b := string([]byte{byte(c), byte(d)})
			for _, in := range []string{"", "[", "<</A ", "<<"} {
				holds(t, fmt.Sprintf("%q", in+b), value(parse.New(spared(in+b), 28)), first(slowValue(in+b, 0, 28)))
			}
		}
	}
}
