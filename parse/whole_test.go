package parse_test

import (
	"fmt"
	"math/rand"
	"slices"
	"strconv"
	"strings"
	"testing"
	"unsafe"

	"pressmark/api"
	"pressmark/cos"
	"pressmark/lex"
	"pressmark/parse"
)

// The chapter's examples.

func TestExamples(t *testing.T) {
	holds(t, "an array", all("[1 0 R 2 0 null]", 9), answer{obj: show(cos.Arr(cos.Ref(1), cos.Int(2), cos.Int(0), cos.None()))})
	holds(t, "a dictionary", all("<</B 1/A null>>", 9), answer{obj: show(cos.Dict(cos.Pair("B", cos.Int(1))))})
}

// P12.3: where the parser stands.

func TestPlaces(t *testing.T) {
	p := parse.New([]byte(" 1 [2 0 R]"), 9)
	for i, want := range []int{0, 2, 10, 10, 10} {
		if p.At() != want || p.Pos() != want || p.Left() != 10-want {
			t.Errorf("behind %d calls: At %d, stands at %d, want %d", i, p.At(), p.Pos(), want)
		}
		p.Value()
	}
	p = parse.New([]byte("5 0 obj [1\n2 x"), 9)
	for range 3 {
		holds(t, "an error", item(p), fault(api.ErrForm, 13))
		p.Seek(0)
	}
	holds(t, "a value", value(p), came(cos.Int(5), 1))
	p.Seek(8)
	holds(t, "an error", value(p), fault(api.ErrForm, 13))
	if tok, e := p.Token(); e != api.OK || tok.Kind != lex.Word || tok.At != 13 {
		t.Errorf("a token behind an error: %v, %v", tok, e)
	}
	holds(t, "the end", value(p), fault(api.ErrShort, 14))
}

func TestFirstErrorCounts(t *testing.T) {
	// Each with others behind it that are told, if the first one is mended.
	for b, want := range map[string]answer{
		"[/A/#4]":                    fault(api.ErrForm, 3),
		"[2147483648 /#4":            fault(api.ErrRange, 1),
		"[(a /#4":                    fault(api.ErrShort, 1),
		"<</A 1/A(":                  fault(api.ErrForm, 6),
		"<</A 1/A[[[":                fault(api.ErrForm, 6),
		"<</A[[2147483648":           fault(api.ErrDepth, 5),
		"[[[2147483648":              fault(api.ErrDepth, 2),
		"[2147483648[[[":             fault(api.ErrRange, 1),
		"[>>2147483648":              fault(api.ErrForm, 1),
		"<<]/A(":                     fault(api.ErrForm, 2),
		"<</A 2147483648/A":          fault(api.ErrRange, 5),
		"<</A 1/B 2147483648/A":      fault(api.ErrRange, 9),
		"<</A 1 2147483648/A":        fault(api.ErrRange, 7),
		"[1 0 2147483648 x":          fault(api.ErrRange, 5),
		"[1 2147483648 R":            fault(api.ErrRange, 3),
		"[1 0 (":                     fault(api.ErrShort, 5),
		"[1 0":                       fault(api.ErrShort, 4),
		"[x":                         fault(api.ErrForm, 1),
		"<</A 1/B[/A 1 x<</C]/A 3>>": fault(api.ErrForm, 14),
	} {
		holds(t, b, value(parse.New(spared(b), 2)), want)
		everywhere(t, b, 2)
		want.at += 8
		want.pos += 8
		holds(t, b+", an item's", item(parse.New(spared("5 0 obj "+b), 2)), want)
	}
	for b, want := range map[string]answer{
		"0 2147483648":                          fault(api.ErrForm, 0),
		"2147483648 1 x":                        fault(api.ErrRange, 0),
		"1 1 2147483648":                        fault(api.ErrForm, 2),
		"1 2147483648 x":                        fault(api.ErrRange, 2),
		"1 0 x [[[":                             fault(api.ErrForm, 4),
		"1 0 obj [[[ x":                         fault(api.ErrDepth, 10),
		"1 0 obj<</Length -1/Length 2>>stream(": fault(api.ErrForm, 19),
		"1 0 obj<</Length -1>>stream(":          fault(api.ErrForm, 27),
		"1 0 obj<</Length -1>>stream\n(":        fault(api.ErrForm, 28),
		"1 0 obj<</Length 9>>stream\n(":         fault(api.ErrShort, 27),
		"1 0 obj<</Length 1>>stream\n((x":       fault(api.ErrShort, 28),
		"1 0 obj<</Length 1>>stream\n(x(":       fault(api.ErrForm, 28),
		"1 0 obj<</Length 0>>x(":                fault(api.ErrForm, 20),
	} {
		holds(t, b, item(parse.New(spared(b), 2)), want)
		everywhere(t, b, 2)
	}
}

func TestReadsOn(t *testing.T) {
	// Values and items one behind the other, and what is promoted between them.
	b := "xref 0 1\n5 0 obj<</Length 3>>stream\n1 0\nendstream endobj 6 0 obj[5 0 R]endobj%c\ntrailer<</Root 6 0 R>>7 0 R 8 0 x"
	given := spared(b)
	p := parse.New(given, 3)
	if !p.Keyword("xref") || p.Keyword("xref") {
		t.Error("a keyword ahead of values")
	}
	holds(t, "a number", value(p), came(cos.Int(0), 6))
	holds(t, "another", value(p), came(cos.Int(1), 8))
	holds(t, "a stream", item(p), numbered(5, cos.Stream([]byte("1 0")), 56))
	holds(t, "an array", item(p), numbered(6, cos.Arr(cos.Ref(5)), 77))
	if p.Keyword("startxref") || !p.Keyword("trailer") {
		t.Error("a keyword between")
	}
	holds(t, "a dictionary", value(p), came(cos.Dict(cos.Pair("Root", cos.Ref(6))), 102))
	holds(t, "no item", item(p), fault(api.ErrForm, 106))
	holds(t, "no value", value(p), fault(api.ErrForm, 106))
	p.Seek(102)
	holds(t, "a Ref", value(p), came(cos.Ref(7), 107))
	holds(t, "a number", value(p), came(cos.Int(8), 109))
	holds(t, "a nought", value(p), came(cos.Int(0), 111))
	holds(t, "a word", value(p), fault(api.ErrForm, 112))
	if !p.Match("x") || p.Next() != -1 {
		t.Error("a word behind its error")
	}
	holds(t, "the end", value(p), fault(api.ErrShort, 113))
	holds(t, "the end, an item", item(p), fault(api.ErrShort, 113))
	untouched(t, "values and items", given, b)
}

// P12.4: All.

func TestAll(t *testing.T) {
	for _, blank := range []string{"", " ", "%", "%x", "\n%1\n", "\x00\t\n\f\r ", "%]\r%>>\n", "%[\r\n%"} {
		holds(t, fmt.Sprintf("%q", blank), all(blank, 28), answer{obj: "Null", e: api.ErrShort})
		for b, o := range map[string]api.Obj{"1": cos.Int(1), "1 0 R": cos.Ref(1), "(a)": cos.Str([]byte("a")), "/A": cos.Name("A"), "null": cos.None(), "true": cos.Bool(true), "[1]": cos.Arr(cos.Int(1)), "<</A 1>>": cos.Dict(cos.Pair("A", cos.Int(1))), "1.5": cos.Real(150000)} {
			ahead := blank
			if strings.HasSuffix(blank, "%") || strings.HasSuffix(blank, "x") {
				ahead += "\n"
			}
			holds(t, fmt.Sprintf("%q", ahead+b+blank), all(ahead+b+blank, 28), answer{obj: show(o)})
			for _, more := range []string{"1", "null", "(a)", "/", "[", "]", "]]", "<<", ">>", ")", "{", "(", "<", "<x", "x", "obj", "2147483648", "1a", "/#4", "0 R", strings.Repeat("w", 128), "%\n1", "\xff"} {
				b := ahead + b + blank + "\n" + more
				want := answer{obj: "Null", e: api.ErrLong}
				if strings.HasSuffix(b, "1\n0 R") || strings.HasSuffix(b, "1"+blank+"\n0 R") {
					want = answer{obj: show(cos.Ref(1))}
				}
				holds(t, fmt.Sprintf("%q", b), all(b, 28), want)
			}
		}
	}
	for b, e := range map[string]api.Errno{"[": api.ErrShort, "]": api.ErrForm, "[[[": api.ErrDepth, "[1 2147483648] 5": api.ErrRange, "x 1": api.ErrForm, "(": api.ErrShort, "<</A 1/A 1>>": api.ErrForm, "5 0 obj 7 endobj": api.ErrLong, "/" + strings.Repeat("n", 128) + " 1": api.ErrLong, ">>": api.ErrForm, "<<>>stream\nendstream": api.ErrLong} {
		holds(t, b, all(b, 2), answer{obj: "Null", e: e})
	}
	for _, b := range [][]byte{nil, {}} {
		if o, e := parse.All(b, 9); show(o) != "Null" || e != api.ErrShort {
			t.Errorf("All of no bytes: %s, %v", show(o), e)
		}
		holds(t, "no bytes", value(parse.New(b, 9)), fault(api.ErrShort, 0))
		holds(t, "no bytes", item(parse.New(b, 9)), fault(api.ErrShort, 0))
	}
}

// All promises: texts by chance, from each place on.

// parts are what texts by chance are made of.
var parts = []string{" ", " ", "\n", "\r\n", "%c\n", "%", "1", "0", " 0 R", "1 0 R", "7 0 obj", "endobj", "stream\n", "stream\r\n", "stream\r", "endstream", "<</Length 2>>", "/Length", "/A", "/B", "/", "[", "]", "[", "]", "<<", ">>", "<<", ">>", "(a)", "(", ")", "<41>", "true", "false", "null", "1.5", "-1", "2147483648", "8388607", "8388608", "x", "R", "ab", "{", "/#4", "\xff"}

func TestTextsByChance(t *testing.T) {
	chance := rand.New(rand.NewSource(121))
	for range 4000 {
		everywhere(t, byChance(chance, 12, parts), chance.Intn(4))
	}
	for range 4000 {
		b := make([]byte, chance.Intn(20))
		chance.Read(b)
		everywhere(t, string(b), 2)
	}
}

// said is a text that says o, with other blanks and other forms by chance.
func said(chance *rand.Rand, o api.Obj) string {
	blank := func() string { return []string{" ", "\n", "%c\r", "\x00\t"}[chance.Intn(4)] }
	switch o.Kind {
	case api.Bool:
		return blank() + strconv.FormatBool(o.N == 1)
	case api.Int:
		return blank() + fmt.Sprint(o.N)
	case api.Real:
		return fmt.Sprintf("%s%d.%05d", blank(), o.N/100000, o.N%100000)
	case api.Str:
		return fmt.Sprintf("<%x>", o.B)
	case api.Name:
		return "/" + string(o.B)
	case api.Ref:
		return blank() + fmt.Sprint(o.N) + blank() + "0" + blank() + "R"
	case api.Arr:
		b := "["
		for _, part := range o.L {
			b += said(chance, part)
		}
		return b + blank() + "]"
	case api.Dict:
		b := "<<"
		for _, i := range chance.Perm(len(o.D)) {
			b += "/" + o.D[i].Key + said(chance, o.D[i].Val)
		}
		return b + fmt.Sprintf("/Null%d", chance.Intn(100)) + blank() + "null" + blank() + ">>"
	}
	return blank() + "null"
}

// object is an object by chance.
func object(chance *rand.Rand, depth int) api.Obj {
	n := chance.Intn(5)
	switch kind := chance.Intn(10); {
	case kind < 2 && depth > 0:
		var l []api.Obj
		for range n {
			l = append(l, object(chance, depth-1))
		}
		return cos.Arr(l...)
	case kind < 4 && depth > 0:
		var l []api.Entry
		for range n {
			l = append(l, cos.Pair(strings.Repeat("K", chance.Intn(9)), object(chance, depth-1)))
		}
		return cos.Dict(l...)
	case kind == 4:
		return cos.Ref(1 + chance.Intn(api.MaxNumber))
	case kind == 5:
		return cos.Int(chance.Intn(1000) - 500)
	case kind == 6:
		return cos.Real(chance.Int63n(1 << 40))
	case kind == 7:
		return cos.Str(make([]byte, chance.Intn(20)))
	case kind == 8:
		return cos.Name(strings.Repeat("n", n))
	}
	return []api.Obj{cos.None(), cos.Bool(true), cos.Bool(false)}[chance.Intn(3)]
}

func TestObjectsByChance(t *testing.T) {
	chance := rand.New(rand.NewSource(122))
	for range 4000 {
		o := object(chance, 6)
		b := said(chance, o)
		holds(t, fmt.Sprintf("%q", b), all(b, cos.Depth(o)), answer{obj: show(o)})
		holds(t, fmt.Sprintf("%q", b), item(parse.New(spared("3 0 obj"+b+"%\nendobj"), 28)), numbered(3, o, len(b)+15))
		if o.Kind == api.Dict {
			made := api.Obj{Kind: api.Stream, B: []byte("data)\r"), D: o.D}
			b = "3 0 obj" + strings.TrimSuffix(b, ">>") + "/Length 6>>stream\ndata)\rendstream\nendobj"
			holds(t, fmt.Sprintf("%q", b), item(parse.New(spared(b), 28)), numbered(3, made, len(b)))
		}
	}
}

// FuzzParse asks of what is given what a slow parser reads, as go test -fuzz asks.
func FuzzParse(f *testing.F) {
	f.Add([]byte("[1 0 R 2 0 null]<</B 1/A null>>"), 2)
	f.Add([]byte("7 0 obj<</Length 2/A[(a)<41>true 1.5]>>stream\r\nab\nendstream%c\nendobj"), 28)
	f.Fuzz(func(t *testing.T, b []byte, depth int) {
		if len(b) > 200 {
			b = b[:200]
		}
		everywhere(t, string(b), depth)
	})
}

// R1: what is long, or deep, or does not end, comes in time.

func TestLongArrays(t *testing.T) {
	const n = 100000
	for b, one := range map[string]api.Obj{" 1": cos.Int(1), " 1 0 R": cos.Ref(1), "[]": cos.Arr(), "/A": cos.Name("A"), "<<>>": cos.Dict(), "(a)": cos.Str([]byte("a")), "%c\n1%c\n": cos.Int(1)} {
		for _, in := range []int{1, 27} {
			text := strings.Repeat("[", in) + strings.Repeat(b, n) + strings.Repeat("]", in)
			o, e := parse.All([]byte(text), 28)
			for range in - 1 {
				if e != api.OK || o.Kind != api.Arr || len(o.L) != 1 {
					t.Fatalf("many of %s: %v, %v", b, o.Kind, e)
				}
				o = o.L[0]
			}
			if e != api.OK || len(o.L) != n || slices.ContainsFunc(o.L, func(o api.Obj) bool { return !cos.Same(o, one) }) {
				t.Errorf("many of %s: %d of them, %v", b, len(o.L), e)
			}
			at := len(text) - in
			holds(t, "many that do not end", value(parse.New([]byte(text[:at]), 28)), fault(api.ErrShort, at))
		}
	}
}

func TestLongDictionaries(t *testing.T) {
	const n = 60000
	var b strings.Builder
	b.WriteString("<<")
	for i := range n {
		fmt.Fprintf(&b, "/K%d %d", n-i, i)
		fmt.Fprintf(&b, "/N%d null", i)
	}
	all := b.String()
	o, e := parse.All([]byte(all+">>"), 1)
	if e != api.OK || len(o.D) != n || !cos.May(o) || cos.Get(o, "K7").N != n-7 {
		t.Errorf("many entries: %d of them, %v", len(o.D), e)
	}
	for _, again := range []string{"/K1", "/K60000", "/N0 ", "/N59999/", "/K#37 1"} {
		holds(t, "many entries, and "+again, value(parse.New([]byte(all+again), 1)), fault(api.ErrForm, len(all)))
	}
}

func TestLongTexts(t *testing.T) {
	const n = 1 << 18
	for _, part := range []string{"[", "<<", "[<</A", "<</A[", "]", ">", "<", "(", "\\(", "/", "1 ", "1 0 ", "0 R ", "1 0 R ", "%", "% \n", " ", "x", "(a)", "<</A 1/A", "[]", "1 0 obj "} {
		b := strings.Repeat(part, n/len(part))
		for _, ahead := range []string{"", "1 ", "1 0 ", "[1 ", "[", "<</A ", "7 0 obj ", "7 0 obj[", "7 0 obj<</Length 100000>>stream\n"} {
			for name, call := range map[string]func(*parse.Parser) answer{"Value": value, "Item": item} {
				p := parse.New([]byte(ahead+b), 28)
				if a := call(p); a.at != a.pos || a.pos > len(ahead+b) {
					t.Errorf("%s of %s: %v", name, ahead+part, a)
				}
			}
		}
	}
}

func TestLongStreams(t *testing.T) {
	const n = 1 << 24
	data := strings.Repeat("endstream endob\n", n/16)
	b := fmt.Sprintf("7 0 obj<</Length %d>>stream\n%s\nendstream endobj", n, data)
	i, e := parse.New([]byte(b), 1).Item()
	if e != api.OK || i.Num != 7 || string(i.Obj.B) != data || !cos.May(i.Obj) {
		t.Errorf("a long stream: number %d, %d bytes, %v", i.Num, len(i.Obj.B), e)
	}
	// As long as a stream may be is not asked here.
	b = fmt.Sprintf("7 0 obj<</Length %d>>stream\n%s\n\nendstream endobj", n+1, data)
	i, e = parse.New([]byte(b), 1).Item()
	if e != api.OK || string(i.Obj.B) != data+"\n" {
		t.Errorf("a longer stream: %d bytes, %v", len(i.Obj.B), e)
	}
}

// R4: what is answered is new memory, and what is handed in stays as it is.

// span is where a list stands in memory.
type span struct{ from, to uintptr }

func spanOf[T any](l []T) span {
	var one T
	from := uintptr(unsafe.Pointer(unsafe.SliceData(l)))
	return span{from, from + uintptr(cap(l))*unsafe.Sizeof(one)}
}

// spans are where the lists of o stand, with their room, but those without any.
func spans(o api.Obj) []span {
	l := []span{spanOf(o.B), spanOf(o.L), spanOf(o.D)}
	for _, part := range o.L[:cap(o.L)] {
		l = append(l, spans(part)...)
	}
	for _, e := range o.D[:cap(o.D)] {
		l = append(l, spans(e.Val)...)
	}
	return slices.DeleteFunc(l, func(s span) bool { return s.from == s.to })
}

// apart tells if two of the lists share memory.
func apart(t *testing.T, what string, l []span) {
	t.Helper()
	slices.SortFunc(l, func(a, b span) int {
		if a.from < b.from {
			return -1
		}
		return 1
	})
	for i := 1; i < len(l); i++ {
		if l[i-1].to > l[i].from {
			t.Errorf("%s: two lists share memory", what)
			return
		}
	}
}

// kept is an item with lists of each kind.
const kept = "7 0 obj<</Length 4/A[(text)<4142>/Name/#4eame[/A/A(a)(a)]()[]<<>>]/B<</A[1 0 R]/C(text)>>/D/A/E(t)>>stream\ndata\nendstream endobj"

func TestKeepsNothing(t *testing.T) {
	given := spared(kept)
	p := parse.New(given, 9)
	var l []span
	var objects []api.Obj
	for range 3 {
		p.Seek(0)
		i, e := p.Item()
		o, f := parse.All(given[7:strings.Index(kept, "stream")], 9)
		if e != api.OK || f != api.OK {
			t.Fatalf("%v, %v", e, f)
		}
		objects = append(objects, i.Obj, o)
		l = append(append(l, spans(i.Obj)...), spans(o)...)
	}
	if len(l) < 6*15 {
		t.Errorf("%d lists", len(l))
	}
	apart(t, "answers", append(l, spanOf(given)))
	was := []string{show(objects[0]), show(objects[1])}
	clear(objects[0].B)
	clear(objects[0].D)
	clear(objects[1].D[0].Val.L)
	untouched(t, "answers changed", given, kept)
	clear(given[:cap(given)])
	for i, o := range objects[2:] {
		if show(o) != was[i%2] {
			t.Errorf("what was handed in, and other answers, changed since: %s, was %s", show(o), was[i%2])
		}
	}
}

func TestLeavesItsBytes(t *testing.T) {
	for _, b := range []string{kept, "[1 0 x", "<</A 1/A", "7 0 obj<</Length 1>>stream\r", "7 0 obj<</Length 99>>stream\n", "(a\\)", "[[[[", "1 0 R", "/#41#4", ""} {
		given := spared(b)
		p := parse.New(given, 3)
		p.Value()
		p.Seek(0)
		p.Item()
		p.Item()
		parse.All(given, 3)
		untouched(t, b, given, b)
	}
}

func TestLooksAtItsBytes(t *testing.T) {
	// A reader looks at the bytes that it was made of, as it reads.
	b := []byte("[1] 2")
	p := parse.New(b, 1)
	holds(t, "an array", value(p), came(cos.Arr(cos.Int(1)), 3))
	b[4] = '7'
	holds(t, "a number that changed since", value(p), came(cos.Int(7), 5))
}

// R5: another parser, and what is asked at the same time, does not count.

func TestParsersOfTheSameBytes(t *testing.T) {
	given := spared(kept)
	one, other := parse.New(given, 9), parse.New(given, 0)
	one.Item()
	holds(t, "another parser", item(other), fault(api.ErrDepth, 7))
	holds(t, "the one", item(one), fault(api.ErrShort, len(kept)))
	one.Seek(0)
	holds(t, "the one, once more", item(one), slowItem(kept, 0, 9))
}

func TestHangsOnArguments(t *testing.T) {
	given := spared(kept)
	for i := range 20 {
		t.Run("", func(t *testing.T) {
			t.Parallel()
			chance := rand.New(rand.NewSource(int64(i)))
			for range 100 {
				b := byChance(chance, 12, parts)
				holds(t, "many at once", all(b, 3), slowAll(b, 3))
				p := parse.New(given, 9)
				at := chance.Intn(len(kept))
				p.Seek(at)
				holds(t, "many at once", value(p), first(slowValue(kept, at, 9)))
			}
		})
	}
}

// R7, and objects that New did not make.

func TestNil(t *testing.T) {
	var none *parse.Parser
	for what, p := range map[string]*parse.Parser{"nil": none, "without a lexer": {}} {
		for range 2 {
			o, e := p.Value()
			i, f := p.Item()
			if show(o) != "Null" || show(i.Obj) != "Null" || i.Num != 0 || e != api.ErrArg || f != api.ErrArg || p.At() != 0 {
				t.Errorf("%s: %s, %v, %v, %v, At %d", what, show(o), e, i, f, p.At())
			}
		}
	}
}

func TestNotMadeByNew(t *testing.T) {
	// Without a cursor there are no bytes; without a depth it is 0.
	p := &parse.Parser{Lexer: &lex.Lexer{}}
	holds(t, "without a cursor", value(p), fault(api.ErrShort, 0))
	holds(t, "without a cursor", item(p), fault(api.ErrShort, 0))
	p = &parse.Parser{Lexer: lex.New([]byte(" 1 0 R[]"))}
	holds(t, "without a depth", value(p), came(cos.Ref(1), 6))
	holds(t, "without a depth", value(p), fault(api.ErrDepth, 6))
	// One that is copied reads from the same place on, as deep.
	one := parse.New([]byte("[[]]7 0 obj[]endobj"), 2)
	other := *one
	holds(t, "the one", value(one), came(cos.Arr(cos.Arr()), 4))
	holds(t, "its copy", item(&other), numbered(7, cos.Arr(), 19))
	one.Lexer = lex.New([]byte("[[[]]]"))
	holds(t, "with another lexer", value(one), fault(api.ErrDepth, 2))
}
