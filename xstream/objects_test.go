package xstream_test

import (
	"fmt"
	"slices"
	"strings"
	"testing"

	"pressmark/api"
	"pressmark/xstream"
)

// P16.2: Objects.

// objs is a stream of so many objects, which stand from first on.
func objs(first, many int, data string) api.Obj {
	return stream(data, entry("First", whole(first)), entry("N", whole(many)), entry("Type", name("ObjStm")))
}

// three are objects of which each kind of fault can be made.
const three = "3 0 11 2 4 7 7 true [(x)]"

func cameThree() answer {
	return cameItems(len(three), item(3, whole(7)), item(11, num(api.Bool, 1)), item(4, arr(text(api.Str, "x"))))
}

// objectForm asks that a stream is of no form, whatever its data are.
func objectForm(t *testing.T, what string, o api.Obj) {
	t.Helper()
	if got := slowObjects(o, 9, enough); got != fault(api.ErrForm) {
		t.Errorf("%s: the slow one %v", what, got)
	}
	objects(t, what, o, 9, enough, fault(api.ErrForm))
	// Ahead of what the filters and the bytes say.
	o.B = nil
	objects(t, what+", no bytes", o, 9, enough, fault(api.ErrForm))
	for _, filter := range []api.Obj{name("DCTDecode"), name("FlateDecode"), name("ASCIIHexDecode")} {
		objects(t, what+", and a filter", with(o, "Filter", filter), 9, enough, fault(api.ErrForm))
	}
}

// reads asks what is read of objects in data.
func reads(t *testing.T, what string, first, many int, data string, want answer) {
	t.Helper()
	o := objs(first, many, data)
	objects(t, what, o, 28, 0, want)
	if got := slowObjects(o, 28, 0); got != want {
		t.Errorf("%s: the slow one %v, want %v", what, got, want)
	}
}

func TestExample(t *testing.T) {
	o, e := xstream.PutObjects(nil, api.Item{Num: 3, Obj: whole(7)})
	if e != api.OK {
		t.Fatal(e)
	}
	objects(t, "the example", o, 9, 99, cameItems(6, item(3, whole(7))))
}

func TestObjects(t *testing.T) {
	reads(t, "three", 13, 3, three, cameThree())
	reads(t, "one", 4, 1, "3 0 7\n", cameItems(6, item(3, whole(7))))
	reads(t, "fewer than stand there", 13, 2, three, cameItems(len(three), item(3, whole(7)), item(11, num(api.Bool, 1))))
	reads(t, "one of them", 13, 1, three, cameItems(len(three), item(3, whole(7))))
	reads(t, "none of them", 13, 0, three, cameItems(len(three)))
	reads(t, "with comments", 22, 2, "% 1 0\n3\t0%\r\n9\r\x00%%%\f\n4 7%9\n/A", cameItems(28, item(3, whole(7)), item(9, name("A"))))
}

func TestObjectsOfOtherKinds(t *testing.T) {
	for _, o := range others(api.Stream) {
		objectForm(t, "another kind", o)
		o.B, o.D, o.L = []byte(three), objs(13, 3, "").D, nil
		objectForm(t, "another kind with all entries", o)
	}
	objectForm(t, "nothing said", stream(three))
	objectForm(t, "rows", xrefs(two))
}

func TestObjectsType(t *testing.T) {
	o := objs(13, 3, three)
	objectForm(t, "no Type", with(o, "Type", api.Obj{}))
	for _, kind := range others(api.Name) {
		if kind.Kind == api.Str {
			kind.B = []byte("ObjStm")
		}
		objectForm(t, "a Type that is no Name", with(o, "Type", kind))
		objectForm(t, "a Type that is no Name", stream(three, append([]api.Entry{entry("Type", kind)}, o.D...)...))
	}
	for _, s := range []string{"", "ObjSt", "ObjStms", "objstm", "OBJSTM", "Objstm", "XRef", "ObjStm\x00", "Catalog"} {
		objectForm(t, "another Type", with(o, "Type", name(s)))
	}
	objectForm(t, "another key", with(with(o, "Type", api.Obj{}), "type", name("ObjStm")))
}

func TestObjectsN(t *testing.T) {
	o := objs(13, 3, three)
	objectForm(t, "no N", with(o, "N", api.Obj{}))
	for _, kind := range others(api.Int) {
		kind.N = 3
		objectForm(t, "an N that is no Int", with(o, "N", kind))
	}
	for _, n := range []int{-1 << 63, -1 << 32, -65536, -2, -1, 65536, 65537, 1 << 24, 1 << 32, 1<<32 + 3, 1<<63 - 1} {
		objectForm(t, "an N", with(o, "N", whole(n)))
	}
	for _, n := range []int{4, 5, 100, 65534, 65535} {
		// What is behind stands for no pairs.
		objects(t, "too many", with(o, "N", whole(n)), 9, 0, fault(api.ErrForm))
		objects(t, "too many, nothing behind", with(objs(13, n, three[:13]), "N", whole(n)), 9, 0, fault(api.ErrShort))
	}
}

func TestObjectsFirst(t *testing.T) {
	o := objs(13, 3, three)
	objectForm(t, "no First", with(o, "First", api.Obj{}))
	for _, kind := range others(api.Int) {
		kind.N = 13
		objectForm(t, "a First that is no Int", with(o, "First", kind))
	}
	for _, n := range []int{-1 << 63, -1<<63 + 13, -1 << 32, -16, -15, -2, -1} {
		objectForm(t, "a First", with(o, "First", whole(n)))
	}
	for _, n := range []int{len(three) + 1, len(three) + 2, 1000, 1 << 31, 1<<31 - 1, 1 << 32, 1<<32 + 13, 1<<63 - 16, 1<<63 - 1} {
		objects(t, "a First beyond", with(o, "First", whole(n)), 9, 0, fault(api.ErrShort))
		// Ahead of what the pairs say.
		reads(t, "a First beyond, and no pairs", n, 3, "3 0 11 2 x", fault(api.ErrShort))
		reads(t, "a First beyond, of no objects", n, 0, "3 0 11 2 x", fault(api.ErrShort))
	}
	for n := range len(three) + 1 {
		reads(t, "of no objects", n, 0, three, cameItems(len(three)))
		want := fault(api.ErrForm)
		if n >= 12 {
			want = slowObjects(with(o, "First", whole(n)), 28, 0)
		}
		objects(t, fmt.Sprint("First ", n), with(o, "First", whole(n)), 28, 0, want)
	}
	reads(t, "nothing at all", 0, 0, "", cameItems(0))
	reads(t, "nothing, and one", 0, 1, "", fault(api.ErrShort))
	reads(t, "nothing, one beyond", 1, 0, "", fault(api.ErrShort))
}

func TestPairsAheadOfFirst(t *testing.T) {
	for _, c := range []struct {
		what  string
		first int
		data  string
		want  answer
	}{
		{"the last at First", 3, "3 0[]", cameItems(5, item(3, arr()))},
		{"the last one ahead", 4, "3 0 []", cameItems(6, item(3, arr()))},
		{"the last one behind", 2, "3 0[]", fault(api.ErrForm)},
		{"the last one begins at First", 2, "3 0 7", fault(api.ErrForm)},
		{"a number goes on at First", 3, "3 07 ", fault(api.ErrForm)},
		{"a place goes on at First", 3, "3 007", fault(api.ErrForm)},
		{"at the beginning", 0, "3 0 7", fault(api.ErrForm)},
		{"a comment goes on at First", 4, "3 0%7\n8", cameItems(7, item(3, whole(7)))},
		{"only the numbers ahead", 1, "3 0 7", fault(api.ErrForm)},
		{"the pairs, at the end of all", 3, "3 0", fault(api.ErrShort)},
	} {
		reads(t, c.what, c.first, 1, c.data, c.want)
	}
	// What is no pair is met ahead of where they stand.
	reads(t, "the end, ahead of First", 2, 2, "3 0", fault(api.ErrShort))
	reads(t, "the end, ahead of First", 0, 2, "3 0 1", fault(api.ErrShort))
	reads(t, "the lexer's error, ahead of First", 0, 2, "3 0 (", fault(api.ErrShort))
	reads(t, "the second pair behind", 5, 2, "3 0 7 1 8", fault(api.ErrForm))
	// Ahead of what the values are.
	reads(t, "ahead of a value that is none", 2, 1, "3 0]", fault(api.ErrForm))
	reads(t, "ahead of a place beyond", 2, 1, "3 99", fault(api.ErrForm))
}

func TestPairs(t *testing.T) {
	const none = -1
	for _, c := range []struct {
		n, kind int
		wantNum api.Errno
		wantAt  api.Errno
	}{
		{-1, none, api.ErrForm, api.ErrForm},
		{-8388607, none, api.ErrForm, api.ErrForm},
		{0, none, api.ErrForm, api.OK},
		{1, none, api.OK, api.OK},
		{2, none, api.OK, api.OK},
		{8388606, none, api.OK, api.ErrShort},
		{8388607, none, api.OK, api.ErrShort},
		{8388608, none, api.ErrForm, api.ErrShort},
		{8388609, none, api.ErrForm, api.ErrShort},
		{1<<31 - 1, none, api.ErrForm, api.ErrShort},
		{1 << 31, none, api.ErrRange, api.ErrRange},
		{1 << 32, none, api.ErrRange, api.ErrRange},
		{1<<32 + 1, none, api.ErrRange, api.ErrRange},
	} {
		for i := range 3 {
			for place := range 2 {
				pairs := [][2]int{{3, 0}, {4, 1}, {5, 2}}
				pairs[i][place] = c.n
				heads := strings.Trim(fmt.Sprint(pairs), "[]") + " "
				heads = strings.NewReplacer("[", "", "]", "").Replace(heads)
				want := []api.Errno{c.wantNum, c.wantAt}[place]
				o := objs(len(heads), 3, heads+"1 2 3 ")
				got := slowObjects(o, 9, 0)
				if got.e != want {
					t.Errorf("%q: the slow one %v, want %v", heads, got, want)
				}
				objects(t, heads, o, 9, 0, got)
			}
		}
	}
	reads(t, "signs of numbers", 16, 2, "+03 -0 0008 +2  7 8", cameItems(19, item(3, whole(7)), item(8, whole(8))))
}

func TestOtherTokens(t *testing.T) {
	for _, s := range []string{"1.0", ".5", "-1.5", "1.", "(1)", "<31>", "/1", "/A", "[", "]", "<<", ">>", "R", "obj", "true", "null", "1x", "{", "}", "x"} {
		for i := range 4 {
			words := []string{"3", "0", "4", "2"}
			words[i] = s
			heads := strings.Join(words, " ") + " "
			o := objs(len(heads), 2, heads+"7 8 9")
			want := slowObjects(o, 28, 0)
			if want.e == api.OK || want.e == api.ErrShort {
				t.Errorf("%q: the slow one %v", heads, want)
			}
			if !strings.ContainsAny(s, "{}x") && want.e != api.ErrForm {
				t.Errorf("%q: the slow one %v", heads, want)
			}
			objects(t, heads, o, 28, 0, want)
			// Nothing behind.
			if i < 3 {
				heads = strings.Join(words[:i+1], " ")
				objects(t, heads, objs(len(heads), 2, heads), 28, 0, want)
			}
		}
	}
	// What a lexer refuses.
	for _, c := range []struct {
		s string
		e api.Errno
	}{{"(3", api.ErrShort}, {"<3", api.ErrShort}, {"<3x>", api.ErrForm}, {"99999999999", api.ErrRange}, {"/" + strings.Repeat("a", 128), api.ErrLong}, {"/#0", api.ErrForm}} {
		for _, ahead := range []string{"", "3 ", "3 0 ", "3 0 4 "} {
			data := ahead + c.s
			reads(t, "what is no token", len(data), 2, data, fault(c.e))
		}
	}
}

func TestTooFewPairs(t *testing.T) {
	for n, s := range []string{"", "3", "3 0", "3 0 4", "3 0 4 0", "3 0 4 0 5", "3 0 4 0 5 0"} {
		for _, behind := range []string{"", " ", "\n", "%", "% 1 2 3 4 5\n"} {
			data := s + behind
			for many := 1 + n/2; many < 6; many++ {
				reads(t, "too few", len(data), many, data, fault(api.ErrShort))
				reads(t, "too few, and behind First", 0, many, data, fault(api.ErrShort))
			}
		}
	}
}

func TestPlaces(t *testing.T) {
	data := "1 2 [] (ab) /X 77"
	at := func(places ...int) (int, string) {
		var s strings.Builder
		for i, n := range places {
			fmt.Fprintf(&s, "%d %d ", i+1, n)
		}
		return s.Len(), s.String() + data
	}
	for _, c := range []struct {
		places []int
		want   []api.Obj
		e      api.Errno
	}{
		{[]int{0, 2, 4, 7, 12, 15}, []api.Obj{whole(1), whole(2), arr(), text(api.Str, "ab"), name("X"), whole(77)}, api.OK},
		{[]int{15, 12, 7, 4, 2, 0}, []api.Obj{whole(77), name("X"), text(api.Str, "ab"), arr(), whole(2), whole(1)}, api.OK},
		{[]int{4, 4, 4}, []api.Obj{arr(), arr(), arr()}, api.OK},
		{[]int{16, 15, 16}, []api.Obj{whole(7), whole(77), whole(7)}, api.OK},
		{[]int{1, 3, 6, 11, 14}, []api.Obj{whole(2), arr(), text(api.Str, "ab"), name("X"), whole(77)}, api.OK},
		{[]int{17}, nil, api.ErrShort},
		{[]int{18}, nil, api.ErrShort},
		{[]int{19}, nil, api.ErrShort},
		{[]int{1<<31 - 1}, nil, api.ErrShort},
		{[]int{0, 4, 17}, nil, api.ErrShort},
		{[]int{0, 18, 4}, nil, api.ErrShort},
		{[]int{18, 5}, nil, api.ErrShort},
		{[]int{5}, nil, api.ErrForm},
		{[]int{5, 18}, nil, api.ErrForm},
		{[]int{0, 5, 18}, nil, api.ErrForm},
		{[]int{0, 18, 5}, nil, api.ErrShort},
		{[]int{10}, nil, api.ErrForm},
		{[]int{8}, nil, api.ErrForm},
		{[]int{13}, nil, api.ErrForm},
	} {
		first, b := at(c.places...)
		want := fault(c.e)
		if c.e == api.OK {
			var items []api.Item
			for i, o := range c.want {
				items = append(items, item(i+1, o))
			}
			want = cameItems(len(b), items...)
		}
		reads(t, fmt.Sprint(c.places), first, len(c.places), b, want)
	}
	for n := range len(data) + 3 {
		first, b := at(n)
		o := objs(first, 1, b)
		objects(t, fmt.Sprint("place ", n), o, 28, 0, slowObjects(o, 28, 0))
	}
	// A place that would be in the bytes, if it was not counted from First.
	reads(t, "beyond", 5, 1, "3 20 7 8", fault(api.ErrShort))
	reads(t, "the last byte's", 5, 1, "3 2  7 8", cameItems(8, item(3, whole(8))))
	reads(t, "one behind it", 5, 1, "3 3  7 8", fault(api.ErrShort))
	reads(t, "beyond", 5, 1, "3 4  7 8", fault(api.ErrShort))
	reads(t, "blank only", 4, 1, "3 1   ", fault(api.ErrShort))
	// First may stand behind the pairs.
	reads(t, "something between", 9, 1, "3 0 null 7", cameItems(10, item(3, whole(7))))
}

func TestNumbersTwice(t *testing.T) {
	reads(t, "twice", 8, 2, "7 0 7 2 1 2", cameItems(11, item(7, whole(1)), item(7, whole(2))))
	reads(t, "falling", 12, 3, "9 0 7 2 8 4 1 2 3", cameItems(17, item(9, whole(1)), item(7, whole(2)), item(8, whole(3))))
	reads(t, "all one", 12, 3, "9 0 9 0 9 0 []", cameItems(14, item(9, arr()), item(9, arr()), item(9, arr())))
	reads(t, "the least and the greatest", 14, 2, "1 0 8388607 2 1 2", cameItems(17, item(1, whole(1)), item(8388607, whole(2))))
}

func TestValues(t *testing.T) {
	for _, c := range []struct {
		s    string
		want api.Obj
	}{
		{"null", api.Obj{}},
		{"true", num(api.Bool, 1)},
		{"false", num(api.Bool, 0)},
		{"7", whole(7)},
		{"-2147483647", whole(-(1<<31 - 1))},
		{"1.5", num(api.Real, 150000)},
		{"(a(b)c)", text(api.Str, "a(b)c")},
		{"<6162>", text(api.Str, "ab")},
		{"/A#42", name("AB")},
		{"[1 [2] null]", arr(whole(1), arr(whole(2)), api.Obj{})},
		{"<</B 1/A null/C<<>>>>", dict(entry("B", whole(1)), entry("C", dict()))},
		{"8388607 0 R", num(api.Ref, greatest)},
		{"8388608 0 R", whole(greatest + 1)},
		{"<</Length 3>>stream\nabc", dict(entry("Length", whole(3)))},
	} {
		reads(t, c.s, 4, 1, "3 0 "+c.s, cameItems(4+len(c.s), item(3, c.want)))
		// A value ends where it ends, whatever stands behind it.
		data := "3 0 4 " + fmt.Sprint(len(c.s)+1) + " "
		reads(t, c.s+", and another", len(data), 2, data+c.s+"\n"+c.s, cameItems(len(data)+2*len(c.s)+1, item(3, c.want), item(4, c.want)))
	}
	// A Ref that goes on where the next one begins.
	reads(t, "a Ref", 12, 3, "3 0 4 2 5 4 1 0 R", fault(api.ErrForm))
	reads(t, "a Ref, and what is in it", 8, 2, "3 0 4 2 1 0 R", cameItems(13, item(3, num(api.Ref, 1)), item(4, whole(0))))
}

func TestDepth(t *testing.T) {
	for deep := range 31 {
		data := "3 0 4 2 5 5 7 [] " + brackets(deep) + " "
		if deep == 0 {
			data += "0"
		}
		want := cameItems(len(data), item(3, whole(7)), item(4, arr()), item(5, func() api.Obj {
			o := whole(0)
			for i := range deep {
				if o = arr(o); i == 0 {
					o = arr()
				}
			}
			return o
		}()))
		for _, depth := range []int{-1 << 63, -1, 0, 1, 2, deep - 1, deep, deep + 1, 27, 28, 29, 1 << 32, 1<<63 - 1} {
			wanted := want
			if depth < max(deep, 1) || deep > 28 {
				wanted = fault(api.ErrDepth)
			}
			o := objs(12, 3, data)
			objects(t, fmt.Sprint("depth ", depth, " of ", deep), o, depth, 0, wanted)
			if got := slowObjects(o, depth, 0); got != wanted {
				t.Errorf("depth %d of %d: the slow one %v", depth, deep, got)
			}
		}
	}
	// Numbers alone need none.
	objects(t, "depth 0", objs(4, 1, "3 0 7"), 0, 0, cameItems(5, item(3, whole(7))))
	objects(t, "a depth below 0", objs(4, 1, "3 0 (x)"), -1<<63, 0, cameItems(7, item(3, text(api.Str, "x"))))
	objects(t, "no pairs need it", objs(0, 0, ""), 0, 0, cameItems(0))
}

func TestValueErrors(t *testing.T) {
	for _, c := range []struct {
		s string
		e api.Errno
	}{
		{"[", api.ErrShort}, {"]", api.ErrForm}, {">>", api.ErrForm}, {"<</A 1/A 2>>", api.ErrForm}, {"<<1 2>>", api.ErrForm}, {"R", api.ErrForm}, {"nul", api.ErrForm}, {"(", api.ErrShort}, {"<6x>", api.ErrForm}, {"9999999999", api.ErrRange}, {"/" + strings.Repeat("a", 128), api.ErrLong}, {"(" + strings.Repeat("a", 32768) + ")", api.ErrLong}, {brackets(29), api.ErrDepth},
	} {
		for i := range 3 {
			values := []string{"7", "8", "9"}
			values[i] = c.s
			heads, at := "", 0
			order := []int{0, 1, 2}
			if c.e == api.ErrShort {
				// What does not end stands behind the others.
				order = append(slices.Delete(order, i, i+1), i)
			}
			places, body := make([]int, 3), ""
			for _, j := range order {
				places[j] = at
				body += values[j] + " "
				at = len(body)
			}
			for j, n := range places {
				heads += fmt.Sprint(j+1, " ", n, " ")
			}
			reads(t, "an error", len(heads), 3, heads+body, fault(c.e))
			// The first one counts.
			heads = strings.Replace(heads, fmt.Sprint("3 ", places[2]), "3 2000000", 1)
			want := fault(c.e)
			if i == 2 {
				want = fault(api.ErrShort)
			}
			reads(t, "an error, and one behind", len(heads), 3, heads+body, want)
		}
	}
}

func TestObjectsFilters(t *testing.T) {
	o := objs(13, 3, three)
	for _, l := range links() {
		objects(t, fmt.Sprint(l), filtered(o, l...), 1, enough, cameThree())
	}
	for _, most := range []int{-1 << 63, -1, 0, 1, len(three) - 1} {
		objects(t, "no filter, whatever the bound", o, 1, most, cameThree())
	}
	for _, s := range five() {
		o := filtered(o, link(s))
		for _, most := range []int{len(three), len(three) + 1, enough, 1<<63 - 1} {
			objects(t, s, o, 1, most, cameThree())
		}
		for _, most := range []int{len(three) - 1, 1, 0, -1, -1 << 63} {
			objects(t, s+", too much", o, 1, most, fault(api.ErrLimit))
			// Ahead of a First beyond.
			objects(t, s+", too much", with(o, "First", whole(1000)), 1, most, fault(api.ErrLimit))
		}
	}
	sum := filtered(o, link("FlateDecode"))
	sum.B[len(sum.B)-1]++
	objects(t, "the sum", sum, 1, enough, fault(api.ErrSum))
	objects(t, "the sum", with(sum, "First", whole(1000)), 1, enough, fault(api.ErrSum))
	objects(t, "a filter that there is not", with(o, "Filter", name("DCTDecode")), 1, enough, fault(api.ErrFilter))
	objects(t, "the filters' form", with(o, "Filter", whole(1)), 1, enough, fault(api.ErrForm))
	objects(t, "the filter's form", with(o, "Filter", name("ASCIIHexDecode")), 1, enough, fault(api.ErrForm))
	objects(t, "the filter's form, ahead of a First beyond", with(objs(99, 3, "3x>"), "Filter", name("ASCIIHexDecode")), 1, enough, fault(api.ErrForm))
	objects(t, "the filter's end", with(objs(0, 3, "41"), "Filter", name("ASCIIHexDecode")), 1, enough, fault(api.ErrShort))
}

func TestFirstOfAKeyOfObjects(t *testing.T) {
	o := objs(13, 3, three)
	for _, e := range []api.Entry{entry("Type", name("XRef")), entry("N", whole(-1)), entry("First", whole(-1)), entry("First", name("x"))} {
		objects(t, "twice", stream(three, append(o.D, e)...), 1, 0, cameThree())
		objectForm(t, "twice", stream(three, append([]api.Entry{e}, o.D...)...))
	}
	slices.Reverse(o.D)
	o.D = append(o.D, entry("Extends", num(api.Ref, 9)), entry("K", nested(40)), entry("Filter", api.Obj{}))
	o.N, o.L = 7, ints(1, 2).L
	objects(t, "more than it needs", o, 1, 0, cameThree())
}

func TestMostObjects(t *testing.T) {
	const most = 65535
	var heads strings.Builder
	var want []api.Item
	for i := range most {
		fmt.Fprintf(&heads, "%d %d ", i+1, 2*(i%5))
		want = append(want, item(i+1, whole(i%5)))
	}
	data := heads.String() + "0 1 2 3 4 "
	items, n, e := xstream.Objects(objs(heads.Len(), most, data), 9, 0)
	holds(t, "65535", toldItems(items, n, e), cameItems(len(data), want...))
	items, n, e = xstream.Objects(objs(heads.Len(), most+1, data), 9, 0)
	holds(t, "65536", toldItems(items, n, e), fault(api.ErrForm))
}

func TestObjectsByChance(t *testing.T) {
	c := newChance(163)
	met := map[api.Errno]int{}
	for range 12000 {
		items := c.items(4)
		o, e := xstream.PutObjects(nil, items...)
		if e != api.OK {
			t.Fatal(e)
		}
		for range c.Intn(2) {
			o = c.spoilt(o)
		}
		if o.Kind == api.Stream {
			o = filtered(o, c.links(2)...)
		}
		for range c.Intn(3) {
			o = c.spoilt(o)
		}
		depth, most := of(c, 0, 1, 2, 9, 9), of(c, 0, 30, enough, enough)
		want := slowObjects(o, depth, most)
		met[want.e]++
		objects(t, "by chance", o, depth, most, want)
	}
	for _, e := range []api.Errno{api.OK, api.ErrShort, api.ErrForm, api.ErrDepth, api.ErrLimit, api.ErrSum} {
		if met[e] < 20 {
			t.Errorf("%v by chance %d times", e, met[e])
		}
	}
}
