package xstream_test

import (
	"fmt"
	"slices"
	"strings"
	"testing"

	"pressmark/api"
	"pressmark/chain"
	"pressmark/cos"
	"pressmark/table"
	"pressmark/xstream"
)

// P16.3: PutRows.

// told is a stream of rows as PutRows makes it, without filters.
func told(data string, size int, index ...int) api.Obj {
	return stream(data, entry("Index", ints(index...)), entry("Size", whole(size)), entry("Type", name("XRef")), entry("W", ints(1, 4, 4)))
}

// puts asks that rows are put as the slow one does.
func puts(t *testing.T, what string, trailer api.Obj, l []chain.Link, r ...table.Row) {
	t.Helper()
	putRows(t, fmt.Sprint(what, " ", r), trailer, l, r, slowPutRows(trailer, l, r...))
}

// wrongRows asks that rows are refused.
func wrongRows(t *testing.T, what string, trailer api.Obj, r ...table.Row) {
	t.Helper()
	if writable(r...) && trailer.Kind == api.Dict && cos.May(trailer) {
		t.Errorf("%s: the slow one", what)
	}
	for _, l := range [][]chain.Link{nil, {link("FlateDecode")}, {shaped("FlateDecode", 12, 1, 5)}, slices.Repeat([]chain.Link{link("ASCIIHexDecode")}, 9)} {
		// Ahead of what filters answer.
		putRows(t, fmt.Sprint(what, " ", r), trailer, l, r, refused(api.ErrArg))
	}
}

func TestPutRows(t *testing.T) {
	for _, c := range []struct {
		what string
		rows []table.Row
		want api.Obj
	}{
		{"none", nil, told("", 1)},
		{"the first", []table.Row{free(0, 0, 65535)}, told("\x00\x00\x00\x00\x00\x00\x00\xff\xff", 1, 0, 1)},
		{"one", []table.Row{placed(7, 0x01020304, 0x0506)}, told("\x01\x01\x02\x03\x04\x00\x00\x05\x06", 8, 7, 1)},
		{"one that is packed", []table.Row{packed(7, 0x010203, 0x04050607)}, told("\x02\x00\x01\x02\x03\x04\x05\x06\x07", 8, 7, 1)},
		{"the last", []table.Row{placed(8388607, 1<<31-1, 65535)}, told("\x01\x7f\xff\xff\xff\x00\x00\xff\xff", 8388608, 8388607, 1)},
		{"the greatest", []table.Row{packed(8388607, 8388607, 1<<31-1)}, told("\x02\x00\x7f\xff\xff\x7f\xff\xff\xff", 8388608, 8388607, 1)},
		{"two", []table.Row{free(0, 3, 1), placed(1, 4, 0)}, told("\x00\x00\x00\x00\x03\x00\x00\x00\x01\x01\x00\x00\x00\x04\x00\x00\x00\x00", 2, 0, 2)},
		{"a gap", []table.Row{free(0, 3, 1), placed(2, 4, 0)}, told("\x00\x00\x00\x00\x03\x00\x00\x00\x01\x01\x00\x00\x00\x04\x00\x00\x00\x00", 3, 0, 1, 2, 1)},
		{"not from 0 on", []table.Row{placed(5, 3, 1), packed(6, 4, 2)}, told("\x01\x00\x00\x00\x03\x00\x00\x00\x01\x02\x00\x00\x00\x04\x00\x00\x00\x02", 7, 5, 2)},
		{"gaps", []table.Row{free(0, 0, 0), free(1, 0, 0), free(3, 0, 0), free(4, 0, 0), free(5, 0, 0), free(8388607, 0, 0)}, told(strings.Repeat("\x00", 54), 8388608, 0, 2, 3, 3, 8388607, 1)},
	} {
		putRows(t, c.what, dict(), nil, c.rows, made(c.want))
		puts(t, "the slow one", dict(), nil, c.rows...)
	}
}

func TestPutRowsKinds(t *testing.T) {
	for _, kind := range []int{-1 << 63, -2, -1, 3, 4, 5, 7, 255, 256, 257, 1 << 32, 1<<32 + 1, 1<<63 - 1} {
		row := table.Row{Num: 5, Kind: kind, At: 1}
		wrongRows(t, "another kind", dict(), row)
		wrongRows(t, "another kind ahead", dict(), row, placed(6, 1, 0))
		wrongRows(t, "another kind behind", dict(), placed(4, 1, 0), row)
	}
	for kind := range 3 {
		row := table.Row{Num: 5, Kind: kind, At: 1}
		puts(t, "a kind", dict(), nil, row)
		puts(t, "a kind among others", dict(), nil, placed(4, 1, 0), row, packed(6, 1, 0))
	}
}

// far are numbers of which few may stand in a row.
var far = []int{-1 << 63, -1<<63 + 7, -1 << 32, -1 << 31, -8388607, -2, -1, 0, 1, 2, 7, 65534, 65535, 65536, 65537, 8388606, 8388607, 8388608, 8388609, 16777216, 1<<31 - 2, 1<<31 - 1, 1 << 31, 1<<31 + 1, 1<<32 - 1, 1 << 32, 1<<32 + 7, 9999999999, 10000000000, 1<<63 - 1}

func TestPutRowsLimits(t *testing.T) {
	asks := func(r table.Row, well bool) {
		t.Helper()
		if well {
			puts(t, "well", dict(), nil, r)
		} else {
			wrongRows(t, "beyond", dict(), r)
		}
		if well != writable(r) {
			t.Errorf("%v: the slow one", r)
		}
		for _, l := range [][]table.Row{{placed(0, 5, 0), r}, {r, free(8388607, 5, 0)}, {free(0, 0, 65535), r, packed(8388607, 5, 0)}} {
			puts(t, "among others", dict(), nil, l...)
		}
	}
	for _, n := range far {
		for kind := range 3 {
			asks(table.Row{Num: n, Kind: kind, At: 1}, n >= 0 && n <= 8388607)
		}
		for kind := range 2 {
			asks(table.Row{Num: 5, Kind: kind, At: n}, n >= 0 && n <= 2147483647)
			asks(table.Row{Num: 5, Kind: kind, Gen: n}, n >= 0 && n <= 65535)
			asks(table.Row{Num: 5, Kind: kind, At: 2147483647, Gen: n}, n >= 0 && n <= 65535)
		}
		asks(packed(5, n, 0), n >= 1 && n <= 8388607)
		asks(packed(5, n, 2147483647), n >= 1 && n <= 8388607)
		asks(packed(5, 1, n), n >= 0 && n <= 2147483647)
		asks(packed(5, 8388607, n), n >= 0 && n <= 2147483647)
	}
}

func TestPutRowsThatDoNotRise(t *testing.T) {
	for _, nums := range [][]int{{1, 1}, {1, 0}, {0, 0}, {8388607, 8388607}, {8388607, 0}, {0, 1, 1}, {0, 2, 1}, {0, 0, 1}, {5, 6, 7, 6}, {5, 7, 6, 8}, {1, 2, 3, 1}, {3, 2, 1}, {0, 1, 2, 0}} {
		for kind := range 3 {
			var r []table.Row
			for i, n := range nums {
				r = append(r, table.Row{Num: n, Kind: (kind + i) % 3, At: 16 + i})
			}
			wrongRows(t, "numbers", dict(), r...)
			slices.SortFunc(r, func(a, b table.Row) int { return a.Num - b.Num })
			puts(t, "sorted", dict(), nil, r...)
		}
	}
}

func TestPutRowsTrailers(t *testing.T) {
	row := placed(4, 16, 0)
	for _, o := range others(api.Dict) {
		wrongRows(t, "a trailer of another kind", o, row)
		wrongRows(t, "a trailer of another kind", o)
		wrongRows(t, "and a row that is wrong", o, placed(-1, 16, 0))
	}
	long := strings.Repeat("k", 128)
	for what, o := range map[string]api.Obj{
		"a field that it does not use": {Kind: api.Dict, N: 1},
		"bytes":                        {Kind: api.Dict, B: []byte("x")},
		"items":                        {Kind: api.Dict, L: ints(1).L},
		"keys that fall":               dict(entry("B", whole(1)), entry("A", whole(1))),
		"a key twice":                  dict(entry("A", whole(1)), entry("A", whole(1))),
		"a long key":                   dict(entry(long, whole(1))),
		"a byte 0 in a key":            dict(entry("A\x00", whole(1))),
		"null":                         dict(entry("A", api.Obj{})),
		"a stream in it":               dict(entry("A", stream("x"))),
		"an Int that is too great":     dict(entry("A", whole(1<<31))),
		"a Ref of 0":                   dict(entry("A", num(api.Ref, 0))),
		"a kind that there is not":     dict(entry("A", num(10, 0))),
		"deep in it":                   dict(entry("A", arr(arr(num(api.Bool, 2))))),
		"too deep":                     dict(entry("A", nested(28))),
		"under a key that is set":      dict(entry("Size", whole(1<<31))),
		"under a key of filters":       dict(entry("Filter", num(api.Bool, 2))),
	} {
		wrongRows(t, what, o, row)
		wrongRows(t, what, o)
	}
	for what, o := range map[string]api.Obj{
		"none":          dict(),
		"some":          dict(entry("ID", arr(text(api.Str, "a"), text(api.Str, ""))), entry("Info", num(api.Ref, 8388607)), entry("Prev", whole(17)), entry("Root", num(api.Ref, 1))),
		"keys around":   dict(entry("", whole(1)), entry("Indey", whole(2)), entry("Sizd", whole(3)), entry("V", whole(4)), entry("WW", whole(5))),
		"as deep":       dict(entry("A", nested(27))),
		"a long key":    dict(entry(long[1:], name(long[1:]))),
		"a Length":      dict(entry("Length", whole(3))),
		"an object's N": dict(entry("First", whole(3)), entry("N", whole(3))),
	} {
		for _, l := range links() {
			puts(t, what, o, l, row)
			puts(t, what, o, l)
		}
		got, e := xstream.PutRows(o, nil, row)
		if e != api.OK || !cos.May(got) {
			t.Errorf("%s: %v, may %v", what, e, cos.May(got))
		}
		for _, e := range o.D {
			if !cos.Same(cos.Get(got, e.Key), e.Val) {
				t.Errorf("%s: %s is %s", what, e.Key, show(cos.Get(got, e.Key)))
			}
		}
	}
	putRows(t, "by hand", dict(entry("Root", num(api.Ref, 1)), entry("X", whole(7))), nil, []table.Row{free(0, 0, 0)}, made(stream(strings.Repeat("\x00", 9), entry("Index", ints(0, 1)), entry("Root", num(api.Ref, 1)), entry("Size", whole(1)), entry("Type", name("XRef")), entry("W", ints(1, 4, 4)), entry("X", whole(7)))))
}

// The keys that PutRows sets do not stay as the trailer has them.

func TestPutRowsKeys(t *testing.T) {
	r := []table.Row{free(0, 0, 65535), packed(3, 1, 0)}
	for _, key := range []string{"Type", "Size", "W", "Index"} {
		for _, o := range append(others(noughts()[1:]...), name("XRef"), name("ObjStm"), whole(99), ints(1, 4, 4), ints(0, 9), ints(1, 2, 1)) {
			if o.Kind == api.Null || o.Kind == api.Stream {
				continue
			}
			trailer := dict(entry(key, o))
			for _, l := range links() {
				puts(t, key, trailer, l, r...)
				putRows(t, key, trailer, l, r, slowPutRows(dict(), l, r...))
			}
		}
	}
	trailer := dict(entry("Index", ints(7, 7)), entry("Size", whole(77)), entry("Type", name("Catalog")), entry("W", ints(4, 4, 4)))
	putRows(t, "all of them", trailer, nil, r, made(told("\x00\x00\x00\x00\x00\x00\x00\xff\xff\x02\x00\x00\x00\x01\x00\x00\x00\x00", 4, 0, 1, 3, 1)))
	// What the trailer says of filters is not true of the data.
	for _, o := range []api.Obj{name("ASCIIHexDecode"), name("DCTDecode"), whole(1), arr(name("LZWDecode"), name("FlateDecode")), arr()} {
		for _, parms := range []api.Obj{dict(), arr(dict()), dict(entry("Columns", whole(9)), entry("Predictor", whole(12))), whole(3)} {
			for _, l := range links() {
				for _, trailer := range []api.Obj{dict(entry("Filter", o)), dict(entry("DecodeParms", parms)), dict(entry("DecodeParms", parms), entry("Filter", o))} {
					putRows(t, "filters", trailer, l, r, slowPutRows(dict(), l, r...))
				}
			}
		}
	}
}

func TestPutRowsLinks(t *testing.T) {
	r := []table.Row{free(0, 0, 65535), placed(1, 17, 0), packed(2, 1, 5), placed(9, 600, 0)}
	for _, l := range links() {
		puts(t, fmt.Sprint(l), dict(entry("Root", num(api.Ref, 1))), l, r...)
		puts(t, fmt.Sprint(l, ", no rows"), dict(), l)
	}
	puts(t, "rows of 9", dict(), []chain.Link{shaped("FlateDecode", 12, 1, 9)}, r...)
	puts(t, "rows of 9", dict(), []chain.Link{shaped("LZWDecode", 15, 3, 3), link("ASCII85Decode")}, r...)
	hexed := told("00000000000000ffff>", 1, 0, 1)
	hexed.D = slices.Insert(hexed.D, 0, entry("Filter", name("ASCIIHexDecode")))
	putRows(t, "by hand", dict(), []chain.Link{link("ASCIIHexDecode")}, r[:1], made(hexed))
	for _, c := range []struct {
		what string
		l    []chain.Link
		e    api.Errno
	}{
		{"a filter that there is not", []chain.Link{link("DCTDecode")}, api.ErrArg},
		{"no name", []chain.Link{{}}, api.ErrArg},
		{"a Shape that may not be", []chain.Link{shaped("FlateDecode", 3, 1, 1)}, api.ErrArg},
		{"too many", slices.Repeat([]chain.Link{link("ASCIIHexDecode")}, 9), api.ErrLong},
		{"no whole rows", []chain.Link{shaped("FlateDecode", 12, 1, 10)}, api.ErrForm},
		{"no whole rows", []chain.Link{link("ASCIIHexDecode"), shaped("LZWDecode", 2, 1, 8)}, api.ErrForm},
	} {
		putRows(t, c.what, dict(), c.l, r[:1], refused(c.e))
		puts(t, c.what, dict(), c.l, r[:1]...)
		putObjects(t, c.what, c.l, []api.Item{item(3, name("abcde"))}, refused(c.e))
	}
}

func TestPutManyRows(t *testing.T) {
	const many = 100000
	r := make([]table.Row, many)
	for i := range r {
		r[i] = placed(5+i, i*37, 0)
	}
	holds(t, "many rows", toldMade(xstream.PutRows(dict(), nil, r...)), slowPutRows(dict(), nil, r...))
	for i := range r {
		r[i] = packed(2*i, 1+i, i%7)
	}
	holds(t, "many parts", toldMade(xstream.PutRows(dict(), nil, r...)), slowPutRows(dict(), nil, r...))
	r[many-1].Num = r[many-2].Num
	holds(t, "the last number twice", toldMade(xstream.PutRows(dict(), nil, r...)), refused(api.ErrArg))
}

func TestPutRowsByChance(t *testing.T) {
	c := newChance(164)
	met := map[api.Errno]int{}
	for range 8000 {
		r, l, trailer := c.rows(6), c.links(2), dict(c.entries(3)...)
		if len(l) > 0 && c.Intn(4) == 0 {
			l[c.Intn(len(l))] = of(c, shaped("FlateDecode", 12, 1, 9), shaped("FlateDecode", 12, 1, 7), link("DCTDecode"))
		}
		if len(r) > 0 && c.Intn(3) == 0 {
			row := &r[c.Intn(len(r))]
			*of(c, &row.Num, &row.At, &row.Gen, &row.Kind) = of(c, far...)
		}
		if c.Intn(9) == 0 {
			trailer = c.spoilt(trailer)
		}
		want := slowPutRows(trailer, l, r...)
		met[want.e]++
		putRows(t, "by chance", trailer, l, r, want)
	}
	for _, e := range []api.Errno{api.OK, api.ErrArg, api.ErrForm} {
		if met[e] < 20 {
			t.Errorf("%v by chance %d times", e, met[e])
		}
	}
}

// P16.3: PutObjects.

// packs is a stream of objects as PutObjects makes it, without filters.
func packs(first, many int, data string) answer { return made(objs(first, many, data)) }

// wrongItems asks that items are refused.
func wrongItems(t *testing.T, what string, items ...api.Item) {
	t.Helper()
	for _, l := range [][]chain.Link{nil, {link("FlateDecode")}, {shaped("FlateDecode", 12, 1, 4096)}, slices.Repeat([]chain.Link{link("ASCIIHexDecode")}, 9)} {
		// Ahead of what filters answer.
		putObjects(t, what, l, items, refused(api.ErrArg))
		if got := slowPutObjects(l, items...); got != refused(api.ErrArg) {
			t.Errorf("%s: the slow one %v", what, got)
		}
	}
}

// putsObjects asks that items are put as the slow one does.
func putsObjects(t *testing.T, what string, l []chain.Link, items ...api.Item) {
	t.Helper()
	want := slowPutObjects(l, items...)
	if want.e != api.OK {
		t.Errorf("%s: the slow one %v", what, want)
	}
	putObjects(t, what, l, items, want)
}

func TestPutObjects(t *testing.T) {
	for _, c := range []struct {
		what  string
		items []api.Item
		want  answer
	}{
		{"none", nil, packs(0, 0, "")},
		{"the example", []api.Item{item(3, whole(7))}, packs(4, 1, "3 0 7\n")},
		{"two", []api.Item{item(3, whole(7)), item(11, name("A"))}, packs(9, 2, "3 0 11 2 7\n/A\n")},
		{"the greatest", []api.Item{item(8388607, num(api.Ref, 8388607))}, packs(10, 1, "8388607 0 8388607 0 R\n")},
		{"of each kind", []api.Item{item(1, api.Obj{}), item(2, num(api.Bool, 1)), item(3, whole(-7)), item(4, num(api.Real, 150000)), item(5, text(api.Str, "a(b")), item(6, name("x y")), item(7, arr(whole(1), api.Obj{})), item(8, dict(entry("A", whole(1)))), item(9, num(api.Ref, 7))}, packs(43, 9, "1 0 2 5 3 10 4 13 5 17 6 26 7 33 8 42 9 51 null\ntrue\n-7\n1.5\n<612862>\n/x#20y\n[1 null]\n<</A 1>>\n7 0 R\n")},
		{"numbers that fall", []api.Item{item(9, arr()), item(2, arr())}, packs(8, 2, "9 0 2 3 []\n[]\n")},
		{"numbers that stand twice", []api.Item{item(2, arr()), item(2, dict()), item(2, arr())}, packs(12, 3, "2 0 2 3 2 8 []\n<<>>\n[]\n")},
	} {
		putObjects(t, c.what, nil, c.items, c.want)
		putsObjects(t, c.what, nil, c.items...)
	}
}

func TestPutObjectsNumbers(t *testing.T) {
	for _, n := range far {
		for _, i := range []api.Item{item(n, whole(7)), item(n, nested(28))} {
			all := [][]api.Item{{i}, {i, item(1, arr())}, {item(1, arr()), i}, {item(1, arr()), i, item(8388607, arr())}}
			for _, l := range all {
				if n < 1 || n > 8388607 {
					wrongItems(t, fmt.Sprint("number ", n), l...)
				} else {
					putsObjects(t, fmt.Sprint("number ", n), nil, l...)
				}
			}
		}
	}
}

func TestPutObjectsThatMayNotBe(t *testing.T) {
	wrong := []api.Obj{sample(api.Stream), stream(""), {Kind: api.Stream}, num(api.Bool, 2), num(api.Bool, -1), whole(1 << 31), whole(-1 << 31), num(api.Real, 1<<62), num(api.Ref, 0), num(api.Ref, 8388608), text(api.Str, strings.Repeat("a", 32768)), name(strings.Repeat("a", 128)), name("a\x00"), arr(stream("")), dict(entry("A", stream(""))), dict(entry("A", api.Obj{})), dict(entry("B", whole(1)), entry("A", whole(1))), dict(entry("A", whole(1)), entry("A", whole(1))), nested(29), {Kind: api.Int, B: []byte("x")}, {Kind: api.Null, N: 1}, arr(whole(1 << 31)), dict(entry("A", arr(num(10, 0))))}
	for _, kind := range noughts()[1:] {
		wrong = append(wrong, api.Obj{Kind: kind}, sample(kind))
	}
	for _, o := range wrong {
		what := "what may not be, " + short(show(o))
		wrongItems(t, what, item(3, o))
		wrongItems(t, what, item(3, o), item(4, whole(1)))
		wrongItems(t, what, item(2, whole(1)), item(3, o))
		wrongItems(t, what, item(2, whole(1)), item(3, o), item(4, whole(1)))
	}
	for _, o := range []api.Obj{{}, num(api.Bool, 0), num(api.Bool, 1), whole(1<<31 - 1), whole(-(1<<31 - 1)), num(api.Real, 0), num(api.Ref, 1), num(api.Ref, 8388607), text(api.Str, strings.Repeat("a", 32767)), text(api.Str, ""), name(strings.Repeat("a", 127)), name(""), nested(28), arr(), dict(), {Kind: api.Arr, B: []byte{}, L: []api.Obj{}, D: []api.Entry{}}} {
		putsObjects(t, "what may be, "+short(show(o)), nil, item(3, o))
		putsObjects(t, "what may be, "+short(show(o)), []chain.Link{link("FlateDecode")}, item(4, o), item(3, o))
	}
}

func TestPutObjectsLinks(t *testing.T) {
	items := []api.Item{item(3, whole(7)), item(8, dict(entry("A", arr(text(api.Str, "(x"))))), item(5, num(api.Ref, 3))}
	for _, l := range links() {
		putsObjects(t, fmt.Sprint(l), l, items...)
		putsObjects(t, fmt.Sprint(l, ", none"), l)
	}
	hexed := objs(4, 1, "33203020370a>")
	hexed.D = slices.Insert(hexed.D, 0, entry("Filter", name("ASCIIHexDecode")))
	putObjects(t, "by hand", []chain.Link{link("ASCIIHexDecode")}, items[:1], made(stands(hexed.B, hexed.D)))
	putObjects(t, "rows of 6", []chain.Link{shaped("FlateDecode", 12, 1, 6)}, items[:1], slowPutObjects([]chain.Link{shaped("FlateDecode", 12, 1, 6)}, items[:1]...))
	putObjects(t, "rows of 5", []chain.Link{shaped("FlateDecode", 12, 1, 5)}, items[:1], refused(api.ErrForm))
}

func TestPutManyObjects(t *testing.T) {
	items := make([]api.Item, 65537)
	for i := range items {
		items[i] = item(8388607-i, whole(i))
	}
	for _, many := range []int{65534, 65535} {
		want := slowPutObjects(nil, items[:many]...)
		if want.e != api.OK {
			t.Errorf("%d: the slow one %v", many, want)
		}
		holds(t, "many", toldMade(xstream.PutObjects(nil, items[:many]...)), want)
	}
	for _, many := range []int{65536, 65537} {
		holds(t, "too many", toldMade(xstream.PutObjects(nil, items[:many]...)), refused(api.ErrArg))
		holds(t, "too many, ahead of links", toldMade(xstream.PutObjects(slices.Repeat([]chain.Link{link("ASCIIHexDecode")}, 9), items[:many]...)), refused(api.ErrArg))
	}
}

func TestPutObjectsByChance(t *testing.T) {
	c := newChance(165)
	met := map[api.Errno]int{}
	for range 8000 {
		items, l := c.items(6), c.links(2)
		if len(l) > 0 && c.Intn(4) == 0 {
			l[c.Intn(len(l))] = of(c, shaped("FlateDecode", 12, 1, 9), shaped("FlateDecode", 12, 1, 7), link("DCTDecode"))
		}
		if len(items) > 0 && c.Intn(3) == 0 {
			i := &items[c.Intn(len(items))]
			if c.Intn(2) == 0 {
				i.Num = of(c, far...)
			} else {
				i.Obj = c.spoilt(i.Obj)
			}
		}
		want := slowPutObjects(l, items...)
		met[want.e]++
		putObjects(t, "by chance", l, items, want)
	}
	for _, e := range []api.Errno{api.OK, api.ErrArg, api.ErrForm} {
		if met[e] < 20 {
			t.Errorf("%v by chance %d times", e, met[e])
		}
	}
}
