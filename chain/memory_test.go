package chain_test

import (
	"fmt"
	"reflect"
	"slices"
	"testing"
	"unsafe"

	"pressmark/api"
	"pressmark/chain"
)

// R4: what is handed in stays as it is, and what is answered is new memory; R2: with an error there is nothing beside it. Each test asks its calls by those here.

// roomy is o in new memory, with room behind each list of what nothing may touch.
func roomy(o api.Obj) api.Obj {
	o.B = append(slices.Clone(o.B), "room"...)[:len(o.B)]
	l := make([]api.Obj, 0, len(o.L)+2)
	for _, part := range o.L {
		l = append(l, roomy(part))
	}
	o.L = append(l, name("RunLengthDecode"), dict())[:len(l)]
	d := make([]api.Entry, 0, len(o.D)+2)
	for _, e := range o.D {
		d = append(d, entry(e.Key, roomy(e.Val)))
	}
	o.D = append(d, entry("Filter", name("ASCIIHexDecode")), entry("DecodeParms", dict()))[:len(d)]
	return o
}

// all is o in new memory, with the room behind its lists as part of them.
func all(o api.Obj) api.Obj {
	o.B, o.L, o.D = slices.Clone(o.B[:cap(o.B)]), slices.Clone(o.L[:cap(o.L)]), slices.Clone(o.D[:cap(o.D)])
	for i := range o.L {
		o.L[i] = all(o.L[i])
	}
	for i := range o.D {
		o.D[i].Val = all(o.D[i].Val)
	}
	return o
}

// span is where a list stands in memory.
type span struct{ from, to uintptr }

func spanOf[T any](l []T) span {
	var one T
	from := uintptr(unsafe.Pointer(unsafe.SliceData(l)))
	return span{from, from + uintptr(cap(l))*unsafe.Sizeof(one)}
}

// spans are where the lists of o stand, with their room, but those without any.
func spans(o api.Obj) []span {
	l := []span{spanOf(o.B), spanOf(o.L), spanOf(o.D)}
	for _, part := range o.L[:cap(o.L)] {
		l = append(l, spans(part)...)
	}
	for _, e := range o.D[:cap(o.D)] {
		l = append(l, spans(e.Val)...)
	}
	return slices.DeleteFunc(l, func(s span) bool { return s.from == s.to })
}

// apart tells if two of the lists share memory.
func apart(t *testing.T, what string, lists ...[]span) {
	t.Helper()
	l := slices.Concat(lists...)
	slices.SortFunc(l, func(a, b span) int {
		if a.from < b.from {
			return -1
		}
		return 1
	})
	for i := 1; i < len(l); i++ {
		if l[i-1].to > l[i].from && l[i].from < l[i].to {
			t.Errorf("%s: two lists share memory", what)
			return
		}
	}
}

// spoil changes all of o, room too.
func spoil(o api.Obj) {
	for i := range o.B[:cap(o.B)] {
		o.B[:cap(o.B)][i] ^= 0xFF
	}
	for i, part := range o.L[:cap(o.L)] {
		spoil(part)
		o.L[:cap(o.L)][i] = text(99, "spoilt")
	}
	for i, e := range o.D[:cap(o.D)] {
		spoil(e.Val)
		o.D[:cap(o.D)][i] = entry("spoilt", text(99, "spoilt"))
	}
}

// given is o handed in, and what tells if it was left as it is.
func given(t *testing.T, what string, o api.Obj) (api.Obj, func()) {
	o = roomy(o)
	was := all(o)
	return o, func() {
		t.Helper()
		if !reflect.DeepEqual(all(o), was) {
			t.Errorf("%s: what was handed in is changed", short(what))
		}
	}
}

// links asks what Links answers.
func links(t *testing.T, what string, o api.Obj, want []chain.Link, fault api.Errno) {
	t.Helper()
	what = short(what + ", Links of " + told(o))
	o, left := given(t, what, o)
	got, e := chain.Links(o)
	other, _ := chain.Links(o)
	if e != fault || !slices.Equal(got, want) {
		t.Errorf("%s: %v, %v, want %v, %v", what, got, e, want, fault)
	}
	apart(t, what, spans(o), []span{spanOf(got), spanOf(other)})
	clear(got[:cap(got)])
	left()
	if again, e := chain.Links(o); e != fault || !slices.Equal(again, want) || !slices.Equal(other, want) {
		t.Errorf("%s, asked again: %v, %v, want %v, %v", what, again, e, want, fault)
	}
	spoil(o)
	if !slices.Equal(other, want) {
		t.Errorf("%s: %v, when what was handed in changed", what, other)
	}
}

// decodes asks what Decode answers.
func decodes(t *testing.T, what string, o api.Obj, most int, want string, fault api.Errno) {
	t.Helper()
	what = fmt.Sprintf("%s, most %d", what, most)
	o, left := given(t, what, o)
	got, e := chain.Decode(o, most)
	other, _ := chain.Decode(o, most)
	if e != fault || string(got) != want {
		t.Errorf("%s, of %s: %s, %v, want %s, %v", what, short(told(o)), short(fmt.Sprintf("%q", got)), e, short(fmt.Sprintf("%q", want)), fault)
	}
	apart(t, what, spans(o), []span{spanOf(got), spanOf(other)})
	clear(got[:cap(got)])
	left()
	if again, e := chain.Decode(o, most); e != fault || string(again) != want || string(other) != want {
		t.Errorf("%s, asked again: %v, want %v", what, e, fault)
	}
	spoil(o)
	if string(other) != want {
		t.Errorf("%s: another one, when what was handed in changed", what)
	}
}

// encodes asks what Encode answers.
func encodes(t *testing.T, what string, data string, l []chain.Link, want api.Obj, fault api.Errno) {
	t.Helper()
	what = short(fmt.Sprintf("%s, Encode of %d bytes by %v", what, len(data), l))
	o, left := given(t, what, text(api.Str, data))
	room := append(slices.Clone(l), shaped("FlateDecode", 12, 1, 1), chain.Link{})
	l = room[:len(l)]
	was := slices.Clone(room)
	got, e := chain.Encode(o.B, l...)
	other, _ := chain.Encode(o.B, l...)
	if e != fault || told(got) != told(want) {
		t.Errorf("%s: %s, %v, want %s, %v", what, short(told(got)), e, short(told(want)), fault)
	}
	apart(t, what, spans(o), spans(got), spans(other), []span{spanOf(room)})
	spoil(got)
	left()
	if !slices.Equal(room, was) {
		t.Errorf("%s: the links that were handed in are changed", what)
	}
	if again, e := chain.Encode(o.B, l...); e != fault || told(again) != told(want) || told(other) != told(want) {
		t.Errorf("%s, asked again: %s, %v, want %s, %v", what, short(told(again)), e, short(told(want)), fault)
	}
	spoil(o)
	clear(room)
	if told(other) != told(want) {
		t.Errorf("%s: another one, when what was handed in changed", what)
	}
}

// has asks what Has answers.
func has(t *testing.T, what string, o api.Obj, want bool, names ...string) {
	t.Helper()
	o, left := given(t, what, o)
	room := append(slices.Clone(names), "FlateDecode", "room")
	was := slices.Clone(room)
	if chain.Has(o, room[:len(names)]...) != want || chain.Has(o, room[:len(names)]...) != want {
		t.Errorf("%s, Has %q of %s: %v", what, names, short(told(o)), !want)
	}
	left()
	if !slices.Equal(room, was) {
		t.Errorf("%s: the names that were handed in are changed", what)
	}
}

// nil and an empty list are one.

func TestEmptyLists(t *testing.T) {
	empty := api.Obj{Kind: api.Stream, B: []byte{}, L: []api.Obj{}, D: []api.Entry{}}
	for _, o := range []api.Obj{empty, {Kind: api.Stream}} {
		links(t, "empty", o, nil, api.OK)
		decodes(t, "empty", o, 0, "", api.OK)
		has(t, "empty", o, false, "FlateDecode", "")
	}
	for _, o := range []api.Obj{{Kind: api.Arr}, {Kind: api.Arr, L: []api.Obj{}}} {
		links(t, "empty", parted("a", o, o), nil, api.OK)
		decodes(t, "empty", parted("a", o, o), 0, "a", api.OK)
	}
	for _, o := range []api.Obj{{Kind: api.Dict}, {Kind: api.Dict, D: []api.Entry{}}} {
		links(t, "empty", parted("a", name("X"), o), linked("X"), api.OK)
	}
	for _, b := range [][]byte{nil, {}} {
		for _, l := range [][]chain.Link{nil, {}} {
			if o, e := chain.Encode(b, l...); e != api.OK || told(o) != told(stream("")) {
				t.Errorf("of nothing: %s, %v", told(o), e)
			}
		}
	}
}

// R5: what is asked at the same time, or ahead, does not count.

func TestHangsOnArguments(t *testing.T) {
	o, e := slowEncode("many at once", shaped("LZWDecode", 12, 3, 4), link("ASCII85Decode"), shaped("FlateDecode", 15, 1, 2))
	if e != api.ErrForm {
		t.Fatal(e)
	}
	if o, e = slowEncode("many at once", link("ASCII85Decode"), shaped("LZWDecode", 12, 3, 4)); e != api.OK {
		t.Fatal(e)
	}
	for i := range 20 {
		t.Run("", func(t *testing.T) {
			t.Parallel()
			c := newChance(int64(i))
			for range 50 {
				data, l := c.data(60), c.links(5)
				want, fault := slowEncode(data, l...)
				if got, e := chain.Encode([]byte(data), l...); e != fault || told(got) != told(want) {
					t.Error("many at once, Encode")
				}
				if b, e := chain.Decode(o, 99); e != api.OK || string(b) != "many at once" {
					t.Errorf("many at once: %q, %v", b, e)
				}
				if l, e := chain.Links(o); e != api.OK || !slices.Equal(l, []chain.Link{link("ASCII85Decode"), shaped("LZWDecode", 12, 3, 4)}) || !chain.Has(o, "LZWDecode") {
					t.Errorf("many at once: %v, %v", l, e)
				}
			}
		})
	}
}
