package xstream_test

import (
	"reflect"
	"slices"
	"testing"
	"unsafe"

	"pressmark/api"
	"pressmark/chain"
	"pressmark/table"
	"pressmark/xstream"
)

// R4: what is handed in stays as it is, and what is answered is new memory; R2: with an error there is nothing beside it. Each test asks its calls by those here.

// roomy is o in new memory, with room behind each list of what nothing may touch.
func roomy(o api.Obj) api.Obj {
	o.B = append(slices.Clone(o.B), "room"...)[:len(o.B)]
	l := make([]api.Obj, 0, len(o.L)+2)
	for _, part := range o.L {
		l = append(l, roomy(part))
	}
	o.L = append(l, whole(1), ints(1, 2))[:len(l)]
	d := make([]api.Entry, 0, len(o.D)+2)
	for _, e := range o.D {
		d = append(d, entry(e.Key, roomy(e.Val)))
	}
	o.D = append(d, entry("Filter", name("ASCIIHexDecode")), entry("Index", ints(7, 7)))[:len(d)]
	return o
}

// all is o in new memory, with the room behind its lists as part of them.
func all(o api.Obj) api.Obj {
	o.B, o.L, o.D = slices.Clone(o.B[:cap(o.B)]), slices.Clone(o.L[:cap(o.L)]), slices.Clone(o.D[:cap(o.D)])
	for i := range o.L {
		o.L[i] = all(o.L[i])
	}
	for i := range o.D {
		o.D[i].Val = all(o.D[i].Val)
	}
	return o
}

// allOf are items likewise.
func allOf(l []api.Item) []api.Item {
	l = slices.Clone(l[:cap(l)])
	for i := range l {
		l[i].Obj = all(l[i].Obj)
	}
	return l
}

// span is where a list stands in memory.
type span struct{ from, to uintptr }

func spanOf[T any](l []T) span {
	var one T
	from := uintptr(unsafe.Pointer(unsafe.SliceData(l)))
	return span{from, from + uintptr(cap(l))*unsafe.Sizeof(one)}
}

// spans are where the lists of o stand, with their room.
func spans(o api.Obj) []span {
	l := []span{spanOf(o.B), spanOf(o.L), spanOf(o.D)}
	for _, part := range o.L[:cap(o.L)] {
		l = append(l, spans(part)...)
	}
	for _, e := range o.D[:cap(o.D)] {
		l = append(l, spans(e.Val)...)
	}
	return l
}

// spansOf are where items stand.
func spansOf(l []api.Item) []span {
	all := []span{spanOf(l)}
	for _, i := range l[:cap(l)] {
		all = append(all, spans(i.Obj)...)
	}
	return all
}

// apart tells if two of the lists, but those without any room, share memory.
func apart(t *testing.T, what string, lists ...[]span) {
	t.Helper()
	l := slices.DeleteFunc(slices.Concat(lists...), func(s span) bool { return s.from == s.to })
	slices.SortFunc(l, func(a, b span) int {
		if a.from < b.from {
			return -1
		}
		return 1
	})
	for i := 1; i < len(l); i++ {
		if l[i-1].to > l[i].from {
			t.Errorf("%s: two lists share memory", short(what))
			return
		}
	}
}

// spoil changes all of o, room too.
func spoil(o api.Obj) {
	for i := range o.B[:cap(o.B)] {
		o.B[:cap(o.B)][i] ^= 0xFF
	}
	for i, part := range o.L[:cap(o.L)] {
		spoil(part)
		o.L[:cap(o.L)][i] = whole(99)
	}
	for i, e := range o.D[:cap(o.D)] {
		spoil(e.Val)
		o.D[:cap(o.D)][i] = entry("spoilt", whole(99))
	}
}

// spoilAll changes all of items.
func spoilAll(l []api.Item) {
	for i, one := range l[:cap(l)] {
		spoil(one.Obj)
		l[:cap(l)][i] = item(99, whole(99))
	}
}

// holds tells if an answer is not what it should be.
func holds(t *testing.T, what string, got, want answer) {
	t.Helper()
	if got != want {
		t.Errorf("%s: %v, want %v", short(what), got, want)
	}
}

// unchanged tells if what was handed in is changed.
func unchanged(t *testing.T, what string, now, was any) {
	t.Helper()
	if !reflect.DeepEqual(now, was) {
		t.Errorf("%s: what was handed in is changed", short(what))
	}
}

// toldRows is an answer of Rows; with an error all of it counts.
func toldRows(rows []table.Row, n int, e api.Errno) answer {
	a := cameRows(n, rows...)
	a.e = e
	return a
}

func toldItems(items []api.Item, n int, e api.Errno) answer {
	a := cameItems(n, items...)
	a.e = e
	return a
}

// rows asks what Rows answers.
func rows(t *testing.T, what string, o api.Obj, most int, want answer) {
	t.Helper()
	what += ", Rows of " + short(show(o))
	o = roomy(o)
	was := all(o)
	got, n, e := xstream.Rows(o, most)
	other, _, _ := xstream.Rows(o, most)
	holds(t, what, toldRows(got, n, e), want)
	unchanged(t, what, all(o), was)
	apart(t, what, spans(o), []span{spanOf(got), spanOf(other)})
	clear(got[:cap(got)])
	unchanged(t, what, all(o), was)
	holds(t, what+", asked again", toldRows(xstream.Rows(o, most)), want)
	spoil(o)
	holds(t, what+", another one", toldRows(other, n, e), want)
}

// objects asks what Objects answers.
func objects(t *testing.T, what string, o api.Obj, depth, most int, want answer) {
	t.Helper()
	what += ", Objects of " + short(show(o))
	o = roomy(o)
	was := all(o)
	got, n, e := xstream.Objects(o, depth, most)
	other, _, _ := xstream.Objects(o, depth, most)
	holds(t, what, toldItems(got, n, e), want)
	unchanged(t, what, all(o), was)
	apart(t, what, spans(o), spansOf(got), spansOf(other))
	spoilAll(got)
	unchanged(t, what, all(o), was)
	holds(t, what+", asked again", toldItems(xstream.Objects(o, depth, most)), want)
	spoil(o)
	holds(t, what+", another one", toldItems(other, n, e), want)
}

// roomyLinks are links with room behind them.
func roomyLinks(l []chain.Link) []chain.Link {
	return append(slices.Clone(l), shaped("FlateDecode", 12, 1, 1), link("ASCIIHexDecode"))[:len(l)]
}

func toldMade(o api.Obj, e api.Errno) answer { return answer{show(o), 0, e} }

// putRows asks what PutRows answers.
func putRows(t *testing.T, what string, trailer api.Obj, l []chain.Link, r []table.Row, want answer) {
	t.Helper()
	what += ", PutRows"
	trailer, l = roomy(trailer), roomyLinks(l)
	r = append(slices.Clone(r), placed(1, 2, 3), free(4, 5, 6))[:len(r)]
	was, hadLinks, hadRows := all(trailer), slices.Clone(l[:cap(l)]), slices.Clone(r[:cap(r)])
	left := func() {
		t.Helper()
		unchanged(t, what, all(trailer), was)
		unchanged(t, what, l[:cap(l)], hadLinks)
		unchanged(t, what, r[:cap(r)], hadRows)
	}
	got, e := xstream.PutRows(trailer, l, r...)
	other, _ := xstream.PutRows(trailer, l, r...)
	holds(t, what, toldMade(got, e), want)
	left()
	apart(t, what, spans(trailer), []span{spanOf(l), spanOf(r)}, spans(got), spans(other))
	spoil(got)
	left()
	holds(t, what+", asked again", toldMade(xstream.PutRows(trailer, l, r...)), want)
	spoil(trailer)
	clear(l[:cap(l)])
	clear(r[:cap(r)])
	holds(t, what+", another one", toldMade(other, e), want)
}

// putObjects asks what PutObjects answers.
func putObjects(t *testing.T, what string, l []chain.Link, items []api.Item, want answer) {
	t.Helper()
	what += ", PutObjects"
	given := make([]api.Item, 0, len(items)+2)
	for _, i := range items {
		given = append(given, item(i.Num, roomy(i.Obj)))
	}
	given = append(given, item(3, whole(7)), item(4, ints(1)))[:len(items)]
	l = roomyLinks(l)
	was, had := allOf(given), slices.Clone(l[:cap(l)])
	left := func() {
		t.Helper()
		unchanged(t, what, allOf(given), was)
		unchanged(t, what, l[:cap(l)], had)
	}
	got, e := xstream.PutObjects(l, given...)
	other, _ := xstream.PutObjects(l, given...)
	holds(t, what, toldMade(got, e), want)
	left()
	apart(t, what, spansOf(given), []span{spanOf(l)}, spans(got), spans(other))
	spoil(got)
	left()
	holds(t, what+", asked again", toldMade(xstream.PutObjects(l, given...)), want)
	spoilAll(given)
	clear(l[:cap(l)])
	holds(t, what+", another one", toldMade(other, e), want)
}

// nil and an empty list are one.

func TestEmptyLists(t *testing.T) {
	for _, empty := range []api.Obj{arr(), {Kind: api.Arr, L: []api.Obj{}, B: []byte{}, D: []api.Entry{}}} {
		o := stream("", entry("Index", empty), entry("Size", whole(1)), entry("Type", name("XRef")), entry("W", ints(1, 1, 1)))
		rows(t, "empty", o, 0, cameRows(0))
		o.B = nil
		rows(t, "nil", o, 0, cameRows(0))
	}
	for _, b := range [][]byte{nil, {}} {
		o := api.Obj{Kind: api.Stream, B: b, D: []api.Entry{entry("First", whole(0)), entry("N", whole(0)), entry("Type", name("ObjStm"))}}
		objects(t, "empty", o, 0, 0, cameItems(0))
	}
	want := slowPutRows(dict(), nil)
	for _, l := range [][]chain.Link{nil, {}} {
		for _, r := range [][]table.Row{nil, {}} {
			for _, o := range []api.Obj{dict(), {Kind: api.Dict, B: []byte{}, L: []api.Obj{}, D: []api.Entry{}}} {
				holds(t, "empty", toldMade(xstream.PutRows(o, l, r...)), want)
			}
		}
		for _, i := range [][]api.Item{nil, {}} {
			holds(t, "empty", toldMade(xstream.PutObjects(l, i...)), slowPutObjects(nil))
		}
	}
}

// R5: what is asked at the same time, or ahead, does not count.

func TestHangsOnArguments(t *testing.T) {
	o := filtered(xrefs("\x01\x02\x03\x04\x02\x00\x05\x06"), link("FlateDecode"))
	packs := filtered(objs(4, 1, "3 0 [(x)]"), link("LZWDecode"))
	for i := range 20 {
		t.Run("", func(t *testing.T) {
			t.Parallel()
			c := newChance(int64(i))
			for range 50 {
				r, items, l := c.rows(5), c.items(5), c.links(3)
				trailer := dict(c.entries(3)...)
				holds(t, "many at once", toldMade(xstream.PutRows(trailer, l, r...)), slowPutRows(trailer, l, r...))
				holds(t, "many at once", toldMade(xstream.PutObjects(l, items...)), slowPutObjects(l, items...))
				spoilt := c.spoilt(o)
				holds(t, "many at once", toldRows(xstream.Rows(spoilt, 99)), slowRows(spoilt, 99))
				holds(t, "many at once", toldRows(xstream.Rows(o, 8)), cameRows(8, placed(0, 0x0203, 4), packed(1, 5, 6)))
				holds(t, "many at once", toldItems(xstream.Objects(packs, 1, 9)), cameItems(9, item(3, arr(text(api.Str, "x")))))
			}
		})
	}
}
