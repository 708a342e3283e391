package table_test

import (
	"fmt"
	"slices"
	"strings"
	"testing"

	"pressmark/api"
	"pressmark/cos"
	"pressmark/table"
)

// text is what Write answers.
type text struct {
	b string
	e api.Errno
}

// String tells it.
func (x text) String() string { return short(fmt.Sprintf("%q", x.b)) + ", " + x.e.Error() }

func write(trailer api.Obj, rows ...table.Row) text {
	b, e := table.Write(trailer, rows...)
	return text{string(b), e}
}

func written(b string) text { return text{b, api.OK} }

func refused() text { return text{"", api.ErrArg} }

// P15.2: Write.

func TestWriteExample(t *testing.T) {
	holds(t, "the example", write(cos.Dict(), table.Row{Num: 0, Kind: table.Free, At: 0, Gen: 65535}), written("xref\n0 1\n0000000000 65535 f \ntrailer\n<<>>\n"))
}

func TestKinds(t *testing.T) {
	holds(t, "kinds", [3]int{table.Free, table.Placed, table.Packed}, [3]int{0, 1, 2})
}

func TestWrite(t *testing.T) {
	for _, c := range []struct {
		rows []table.Row
		want string
	}{
		{nil, "xref\ntrailer\n<<>>\n"},
		{[]table.Row{free(0, 0, 0)}, "xref\n0 1\n0000000000 00000 f \ntrailer\n<<>>\n"},
		{[]table.Row{placed(0, 0, 0)}, "xref\n0 1\n0000000000 00000 n \ntrailer\n<<>>\n"},
		{[]table.Row{placed(7, 16, 3)}, "xref\n7 1\n0000000016 00003 n \ntrailer\n<<>>\n"},
		{[]table.Row{placed(8388607, 9999999999, 65535)}, "xref\n8388607 1\n9999999999 65535 n \ntrailer\n<<>>\n"},
		{[]table.Row{free(0, 0, 65535), placed(1, 17, 0), placed(2, 81, 0)}, "xref\n0 3\n0000000000 65535 f \n0000000017 00000 n \n0000000081 00000 n \ntrailer\n<<>>\n"},
		{[]table.Row{placed(1, 17, 0), free(2, 81, 1)}, "xref\n1 2\n0000000017 00000 n \n0000000081 00001 f \ntrailer\n<<>>\n"},
		{[]table.Row{placed(1, 3, 0), placed(3, 2, 0), placed(5, 1, 0)}, "xref\n1 1\n0000000003 00000 n \n3 1\n0000000002 00000 n \n5 1\n0000000001 00000 n \ntrailer\n<<>>\n"},
		{[]table.Row{free(0, 3, 65535), placed(3, 25325, 0), placed(23, 25518, 2), placed(24, 25635, 0), placed(30, 25777, 0)}, "xref\n0 1\n0000000003 65535 f \n3 1\n0000025325 00000 n \n23 2\n0000025518 00002 n \n0000025635 00000 n \n30 1\n0000025777 00000 n \ntrailer\n<<>>\n"},
		{[]table.Row{placed(4, 1, 0), placed(5, 2, 0), placed(7, 3, 0), placed(8, 4, 0), placed(9, 5, 0)}, "xref\n4 2\n0000000001 00000 n \n0000000002 00000 n \n7 3\n0000000003 00000 n \n0000000004 00000 n \n0000000005 00000 n \ntrailer\n<<>>\n"},
		{[]table.Row{free(0, 0, 0), free(8388607, 0, 0)}, "xref\n0 1\n0000000000 00000 f \n8388607 1\n0000000000 00000 f \ntrailer\n<<>>\n"},
		{[]table.Row{placed(8388606, 5, 0), placed(8388607, 5, 0)}, "xref\n8388606 2\n0000000005 00000 n \n0000000005 00000 n \ntrailer\n<<>>\n"},
	} {
		holds(t, fmt.Sprint(c.rows), write(cos.Dict(), c.rows...), written(c.want))
		holds(t, fmt.Sprint("the slow one, ", c.rows), slowWrite("<<>>", c.rows...), c.want)
	}
}

func TestManyRowsWritten(t *testing.T) {
	const many = 1 << 18
	rows := make([]table.Row, many)
	var b strings.Builder
	for i := range rows {
		rows[i] = placed(5+i, i*37, 0)
		fmt.Fprintf(&b, "%010d 00000 n \n", i*37)
	}
	holds(t, "many rows", write(cos.Dict(), rows...), written(fmt.Sprint("xref\n5 ", many, "\n", b.String(), "trailer\n<<>>\n")))
	b.Reset()
	for i := range rows {
		rows[i] = free(2*i+1, i, 7)
		fmt.Fprintf(&b, "%d 1\n%010d 00007 f \n", 2*i+1, i)
	}
	holds(t, "many parts", write(cos.Dict(), rows...), written("xref\n"+b.String()+"trailer\n<<>>\n"))
	rows[many-1].Num = rows[many-2].Num
	holds(t, "many, the last number twice", write(cos.Dict(), rows...), refused())
}

// wide are numbers of which few may stand in a row.
var wide = []int{-1 << 63, -1<<63 + 7, -9999999999, -1 << 32, -8388607, -65535, -2, -1, 0, 1, 2, 7, 65534, 65535, 65536, 99999, 100000, 8388606, 8388607, 8388608, 16777216, 1<<31 - 1, 1 << 31, 1 << 32, 1<<32 + 7, 9999999998, 9999999999, 10000000000, 99999999999, 1<<63 - 1}

func TestLimits(t *testing.T) {
	asks := func(r table.Row, ok bool) {
		t.Helper()
		want := refused()
		if ok {
			want = written(fmt.Sprintf("xref\n%d 1\n%010d %05d %c \ntrailer\n<<>>\n", r.Num, r.At, r.Gen, "fn"[r.Kind]))
		}
		holds(t, fmt.Sprint(r), write(cos.Dict(), r), want)
		if ok != writable([]table.Row{r}) {
			t.Errorf("the slow one: %v", r)
		}
		// Among others, too.
		for _, l := range [][]table.Row{{r, placed(8388607, 5, 0)}, {placed(0, 5, 0), r}, {free(0, 0, 65535), r, placed(8388607, 5, 0)}} {
			want := refused()
			if ok && r.Num > 0 && r.Num < 8388607 || writable(l) {
				want = written(slowWrite("<<>>", l...))
			}
			holds(t, fmt.Sprint(l), write(cos.Dict(), l...), want)
		}
	}
	for kind := range 2 {
		for _, n := range wide {
			asks(table.Row{Num: n, Kind: kind}, n >= 0 && n <= 8388607)
			asks(table.Row{Num: 5, Kind: kind, At: n}, n >= 0 && n <= 9999999999)
			asks(table.Row{Num: 5, Kind: kind, Gen: n}, n >= 0 && n <= 65535)
			asks(table.Row{Num: 5, Kind: kind, At: 9999999999, Gen: n}, n >= 0 && n <= 65535)
		}
	}
	for _, kind := range append(wide, 3, 4, 5, 6, 8, 9, 'n', 'f', 255, 256, 257) {
		asks(table.Row{Num: 5, Kind: kind, At: 16}, kind == 0 || kind == 1)
	}
}

func TestNumbersThatDoNotRise(t *testing.T) {
	for _, nums := range [][]int{{1, 1}, {1, 0}, {0, 0}, {8388607, 8388607}, {8388607, 0}, {0, 1, 1}, {0, 2, 1}, {0, 0, 1}, {5, 6, 7, 6}, {5, 7, 6, 8}, {1, 2, 3, 1}, {3, 2, 1}, {0, 1, 2, 0}} {
		var rows []table.Row
		for _, n := range nums {
			rows = append(rows, placed(n, 16, 0))
		}
		holds(t, fmt.Sprint(nums), write(cos.Dict(), rows...), refused())
		rows[0].Kind = table.Free
		holds(t, fmt.Sprint(nums, ", the first free"), write(cos.Dict(), rows...), refused())
		rows[1].At++
		holds(t, fmt.Sprint(nums, ", another place"), write(cos.Dict(), rows...), refused())
	}
}

// nested is so many arrays in one another.
func nested(n int) api.Obj {
	o := cos.Arr()
	for range n - 1 {
		o = cos.Arr(o)
	}
	return o
}

func TestTrailersWritten(t *testing.T) {
	row := placed(4, 16, 0)
	for _, c := range []struct {
		o    api.Obj
		want string
	}{
		{cos.Dict(), "<<>>"},
		{api.Obj{Kind: api.Dict, B: []byte{}, L: []api.Obj{}, D: []api.Entry{}}, "<<>>"},
		{cos.Dict(cos.Pair("Size", cos.Int(3)), cos.Pair("Root", cos.Ref(1))), "<</Root 1 0 R/Size 3>>"},
		{cos.Dict(cos.Pair("B", cos.Str([]byte("a)"))), cos.Pair("A", cos.Arr(cos.Int(1), cos.Real(150000), cos.Name("x y"), cos.None()))), "<</A [1 1.5 /x#20y null]/B <6129>>>"},
		{cos.Dict(cos.Pair("Length", cos.Bool(true))), "<</Length true>>"},
		{cos.Dict(cos.Pair("A", nested(27))), "<</A " + strings.Repeat("[", 27) + strings.Repeat("]", 27) + ">>"},
	} {
		holds(t, c.want, write(c.o), written("xref\ntrailer\n"+c.want+"\n"))
		holds(t, c.want, write(c.o, row), written("xref\n4 1\n0000000016 00000 n \ntrailer\n"+c.want+"\n"))
		holds(t, c.want+", a row that may not be", write(c.o, placed(4, -1, 0)), refused())
	}
	entry := func(key string, o api.Obj) api.Entry { return api.Entry{Key: key, Val: o} }
	dict := func(l ...api.Entry) api.Obj { return api.Obj{Kind: api.Dict, D: l} }
	for what, o := range map[string]api.Obj{
		"null":                    cos.None(),
		"a Bool":                  cos.Bool(true),
		"an Int":                  cos.Int(7),
		"a Real":                  cos.Real(7),
		"a Str":                   cos.Str([]byte("<<>>")),
		"a Name":                  cos.Name("A"),
		"an Arr":                  cos.Arr(cos.Dict()),
		"a Stream":                cos.Stream([]byte("a")),
		"an empty Stream":         cos.Stream(nil),
		"a Ref":                   cos.Ref(1),
		"no kind":                 {Kind: 10},
		"no kind, below 0":        {Kind: -1},
		"a Dict with a number":    {Kind: api.Dict, N: 1},
		"a Dict with bytes":       {Kind: api.Dict, B: []byte("a")},
		"a Dict with items":       {Kind: api.Dict, L: []api.Obj{cos.Int(1)}},
		"a key twice":             dict(entry("A", cos.Int(1)), entry("A", cos.Int(1))),
		"keys that fall":          dict(entry("B", cos.Int(1)), entry("A", cos.Int(1))),
		"a value that is null":    dict(entry("A", cos.None())),
		"a value that is none":    dict(entry("A", api.Obj{Kind: 10})),
		"a Stream in it":          dict(entry("A", cos.Stream(nil))),
		"a Ref of 0":              dict(entry("A", cos.Ref(0))),
		"a key too long":          dict(entry(strings.Repeat("A", 128), cos.Int(1))),
		"a key with a byte 0":     dict(entry("A\x00", cos.Int(1))),
		"one that is too deep":    dict(entry("A", nested(28))),
		"a fault within an array": dict(entry("A", cos.Arr(cos.Int(1), cos.Arr(cos.Bool(true), api.Obj{Kind: api.Bool, N: 2})))),
	} {
		holds(t, what, write(o), refused())
		holds(t, what+", with a row", write(o, row), refused())
		holds(t, what+", with a row that may not be", write(o, placed(4, -1, 0)), refused())
	}
}

func TestWriteByChance(t *testing.T) {
	c := newChance(152)
	for range 20000 {
		trailer, printed := c.trailer()
		rows := c.rows(8)
		if !writable(rows) {
			t.Fatal("not writable: ", rows)
		}
		holds(t, fmt.Sprint(rows), write(trailer, rows...), written(slowWrite(printed, rows...)))
		for range 1 + c.Intn(2) {
			if len(rows) == 0 {
				break
			}
			r := &rows[c.Intn(len(rows))]
			*of(c, &r.Num, &r.Kind, &r.At, &r.Gen) = of(c, wide...)
		}
		want := refused()
		if writable(rows) {
			want = written(slowWrite(printed, rows...))
		}
		holds(t, fmt.Sprint(rows), write(trailer, rows...), want)
	}
}

// P15.2: Lookup.

// finds asks what Lookup answers.
func finds(t *testing.T, rows []table.Row, num int, want table.Row, ok bool) {
	t.Helper()
	was := slices.Clone(rows[:cap(rows)])
	r, is := table.Lookup(rows, num)
	if r != want || is != ok {
		t.Errorf("%d in %v: %v, %v, want %v, %v", num, rows, r, is, want, ok)
	}
	if !slices.Equal(rows[:cap(rows)], was) {
		t.Errorf("%d in %v: the rows are changed", num, was)
	}
}

func TestLookup(t *testing.T) {
	none := table.Row{}
	for _, n := range wide {
		finds(t, nil, n, none, false)
		finds(t, []table.Row{}, n, none, false)
		finds(t, []table.Row{{Num: 5, Kind: 1, At: n, Gen: n}}[:0:1], 5, none, false)
		// Any number, and whatever else a row says.
		finds(t, []table.Row{{n, n, n, n}}, n, table.Row{Num: n, Kind: n, At: n, Gen: n}, true)
		finds(t, []table.Row{{n, 2, 3, 4}}, 3, none, false)
		finds(t, []table.Row{{n - 1, 1, 1, 1}, {n, 2, 2, 2}, {n + 1, 3, 3, 3}, {n, 4, 4, 4}}, n, table.Row{Num: n, Kind: 2, At: 2, Gen: 2}, true)
	}
	for _, rows := range [][]table.Row{
		{placed(3, 1, 0), free(7, 2, 1), {Num: 9, Kind: 2, At: 3, Gen: 4}},
		{{Num: 9, Kind: 2, At: 3, Gen: 4}, free(7, 2, 1), placed(3, 1, 0)},
		{free(7, 2, 1), {Num: 9, Kind: 2, At: 3, Gen: 4}, placed(3, 1, 0), placed(7, 8, 0), free(9, 0, 0), placed(3, 8, 0)},
	} {
		finds(t, rows, 3, placed(3, 1, 0), true)
		finds(t, rows, 7, free(7, 2, 1), true)
		finds(t, rows, 9, table.Row{Num: 9, Kind: 2, At: 3, Gen: 4}, true)
		for _, n := range append(wide[:11:11], 2, 4, 5, 6, 8, 10, 11) {
			finds(t, rows, n, none, false)
		}
		// Behind the end there is nothing.
		finds(t, rows[:1:1], rows[1].Num, none, false)
		finds(t, rows[:1], rows[1].Num, none, false)
	}
	// The first row of a number, a free one too, and one of number 0.
	finds(t, []table.Row{free(0, 0, 65535), placed(0, 5, 0)}, 0, free(0, 0, 65535), true)
	finds(t, []table.Row{{}, placed(0, 5, 0)}, 0, none, true)
	finds(t, []table.Row{placed(1, 5, 0), placed(1, 6, 0), placed(1, 7, 0)}, 1, placed(1, 5, 0), true)
}

func TestLookupByChance(t *testing.T) {
	c := newChance(153)
	for range 20000 {
		rows := make([]table.Row, c.Intn(8))
		byNum := map[int]table.Row{}
		for i := range rows {
			rows[i] = table.Row{Num: c.Intn(9) - 2, Kind: c.Intn(4), At: c.Int(), Gen: i}
		}
		for _, r := range slices.Backward(rows) {
			byNum[r.Num] = r
		}
		for n := -3; n < 8; n++ {
			want, ok := byNum[n]
			finds(t, rows, n, want, ok)
		}
	}
}
