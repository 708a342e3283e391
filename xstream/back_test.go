package xstream_test

import (
	"fmt"
	"slices"
	"testing"

	"pressmark/api"
	"pressmark/chain"
	"pressmark/cos"
	"pressmark/parse"
	"pressmark/print"
	"pressmark/table"
	"pressmark/xstream"
)

// P16.4: what is put is read as it was.

// rowsBack asks that what PutRows answers is read as the rows, and put again is the same.
func rowsBack(t *testing.T, trailer api.Obj, l []chain.Link, r ...table.Row) {
	t.Helper()
	what := fmt.Sprint("back, ", l, r)
	o, e := xstream.PutRows(trailer, l, r...)
	if e != api.OK || !cos.May(o) {
		t.Fatalf("%s: %v", short(what), e)
	}
	b, e := chain.Decode(o, enough)
	if e != api.OK || len(b) != 9*len(r) {
		t.Errorf("%s: %d bytes, %v", short(what), len(b), e)
	}
	holds(t, what, toldRows(xstream.Rows(o, enough)), cameRows(9*len(r), r...))
	holds(t, what+", put again", toldMade(xstream.PutRows(dict(o.D...), l, r...)), made(o))
	holds(t, what+", printed", toldRows(xstream.Rows(printed(t, o), enough)), cameRows(9*len(r), r...))
}

// itemsBack asks likewise of items.
func itemsBack(t *testing.T, l []chain.Link, items ...api.Item) {
	t.Helper()
	what := fmt.Sprint("back, ", l, items)
	o, e := xstream.PutObjects(l, items...)
	if e != api.OK || !cos.May(o) {
		t.Fatalf("%s: %v", short(what), e)
	}
	b, e := chain.Decode(o, enough)
	if e != api.OK {
		t.Errorf("%s: %v", short(what), e)
	}
	want := cameItems(len(b), items...)
	holds(t, what, toldItems(xstream.Objects(o, api.MaxDepth, enough)), want)
	holds(t, what+", printed", toldItems(xstream.Objects(printed(t, o), api.MaxDepth, enough)), want)
	deep := 0
	for _, i := range items {
		deep = max(deep, cos.Depth(i.Obj))
	}
	holds(t, what+", just as deep", toldItems(xstream.Objects(o, deep, enough)), want)
	if deep > 0 {
		holds(t, what+", deeper", toldItems(xstream.Objects(o, deep-1, enough)), fault(api.ErrDepth))
	}
}

// printed is a stream as it is read from what is printed of it.
func printed(t *testing.T, o api.Obj) api.Obj {
	t.Helper()
	b, e := print.Item(item(5, o))
	if e != api.OK {
		t.Fatal(e)
	}
	i, e := parse.New(b, api.MaxDepth).Item()
	if e != api.OK {
		t.Fatal(e)
	}
	return i.Obj
}

func TestRowsBack(t *testing.T) {
	trailers := []api.Obj{dict(), dict(entry("Root", num(api.Ref, 8388607)), entry("Size", whole(9))), dict(entry("A", nested(27))), dict(entry("DecodeParms", whole(7)), entry("Filter", name("DCTDecode")), entry("Index", ints(9)), entry("Type", whole(1)), entry("W", whole(2)))}
	all := []table.Row{free(0, 0, 65535), placed(1, 0, 0), packed(2, 1, 0), free(4, 2147483647, 0), placed(5, 2147483647, 65535), packed(6, 8388607, 2147483647), placed(9, 9, 9), free(8388606, 1, 1), packed(8388607, 7, 65536)}
	for _, trailer := range trailers {
		for _, l := range append(links(), []chain.Link{shaped("FlateDecode", 12, 1, 9)}, []chain.Link{link("ASCII85Decode"), shaped("LZWDecode", 15, 3, 3)}) {
			rowsBack(t, trailer, l)
			rowsBack(t, trailer, l, all...)
			for i := range all {
				rowsBack(t, trailer, l, all[i])
				rowsBack(t, trailer, l, all[i:]...)
				rowsBack(t, trailer, l, all[:i]...)
			}
		}
	}
}

func TestItemsBack(t *testing.T) {
	all := []api.Item{item(3, whole(7)), item(1, api.Obj{}), item(8388607, num(api.Bool, 0)), item(2, num(api.Bool, 1)), item(2, num(api.Real, -1)), item(4, text(api.Str, "endstream\nendobj")), item(5, text(api.Str, "\x00\xff(")), item(6, name("")), item(7, name("R")), item(8, arr(num(api.Ref, 1), whole(0), name("R"))), item(9, dict(entry("", api.Obj{Kind: api.Arr}), entry("Length", whole(3)))), item(10, num(api.Ref, 8388607)), item(11, whole(0)), item(12, whole(0)), item(13, name("x")), item(14, nested(28))}
	for _, l := range links() {
		itemsBack(t, l)
		itemsBack(t, l, all...)
		for i, a := range all {
			itemsBack(t, l, a)
			itemsBack(t, l, all[i:]...)
			for _, b := range all {
				// What stands side by side is not read as one.
				itemsBack(t, l, a, b)
			}
		}
	}
	itemsBack(t, nil, item(1, whole(1)), item(2, whole(0)), item(3, name("R")), item(4, whole(0)), item(5, num(api.Ref, 1)), item(6, whole(0)))
}

func TestBackByChance(t *testing.T) {
	c := newChance(166)
	for range 3000 {
		l, trailer := c.links(3), dict(c.entries(3)...)
		rowsBack(t, trailer, l, c.rows(9)...)
		itemsBack(t, l, c.items(9)...)
	}
}

func TestManyBack(t *testing.T) {
	c := newChance(167)
	var r []table.Row
	for n := 0; len(r) < 100000; n += of(c, 1, 1, 1, 2, 9) {
		r = append(r, of(c, placed(n, c.Intn(1<<31), c.Intn(65536)), packed(n, 1+c.Intn(greatest), c.Intn(1<<31))))
	}
	items := make([]api.Item, 65535)
	for i := range items {
		items[i] = item(1+c.Intn(greatest), c.object(2))
	}
	for _, l := range [][]chain.Link{nil, {shaped("FlateDecode", 12, 1, 1)}} {
		rowsBack(t, dict(), l, r...)
		itemsBack(t, l, items...)
	}
}

// What can be read can be put, where it may be written.

func FuzzRows(f *testing.F) {
	f.Add([]byte("1 0 obj<</Length 18/Type/XRef/Size 2/W[1 4 4]>>stream\n\x00\x00\x00\x00\x00\x00\x00\xff\xff\x02\x00\x00\x00\x01\x00\x00\x00\x00\nendstream endobj"), 9)
	f.Add([]byte("1 0 obj<</Length 8/Type/XRef/Size 2/W[1 2 1]/Index[3 1 7 1]/Filter/FlateDecode>>stream\n\x01\x02\x03\x04\x02\x00\x05\x06\nendstream endobj"), 9)
	f.Fuzz(func(t *testing.T, b []byte, most int) {
		i, e := parse.New(b, api.MaxDepth).Item()
		if e != api.OK {
			return
		}
		most = min(most, 1<<20)
		rows(t, "by fuzz", i.Obj, most, slowRows(i.Obj, most))
		r, _, e := xstream.Rows(i.Obj, most)
		if e != api.OK {
			return
		}
		slices.SortFunc(r, func(a, b table.Row) int { return a.Num - b.Num })
		trailer := dict(slices.DeleteFunc(i.Obj.D, func(e api.Entry) bool { return e.Key == "Length" })...)
		puts(t, "by fuzz", trailer, nil, r...)
		if writable(r...) {
			rowsBack(t, trailer, []chain.Link{link("LZWDecode")}, r...)
		}
	})
}

func FuzzObjects(f *testing.F) {
	f.Add([]byte("3 0 11 2 4 7 7 true [(x)]"), 13, 3, 1)
	f.Add([]byte("3 0%\n8 2 7[]"), 9, 2, 1)
	f.Fuzz(func(t *testing.T, b []byte, first, many, depth int) {
		o := objs(first, many, string(b))
		objects(t, "by fuzz", o, depth, 0, slowObjects(o, depth, 0))
		if items, _, e := xstream.Objects(o, depth, 0); e == api.OK {
			itemsBack(t, []chain.Link{link("FlateDecode")}, items...)
		}
	})
}
