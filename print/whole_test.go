package print_test

import (
	"fmt"
	"slices"
	"strings"
	"testing"
	"unsafe"

	"pressmark/api"
	"pressmark/print"
)

// R4: what is handed in stays as it is, and what is answered is new memory.

// roomy is o in new memory, with room behind each list of what would be printed, and nothing may touch.
func roomy(o api.Obj) api.Obj {
	o.B = append(slices.Clone(o.B), "room"...)[:len(o.B)]
	l := make([]api.Obj, 0, len(o.L)+2)
	for _, part := range o.L {
		l = append(l, roomy(part))
	}
	o.L = append(l, text(api.Str, "room"), arr(whole(1)))[:len(l)]
	d := make([]api.Entry, 0, len(o.D)+2)
	for _, e := range o.D {
		d = append(d, entry(e.Key, roomy(e.Val)))
	}
	o.D = append(d, entry("room", text(api.Str, "room")), entry("s", arr(whole(1))))[:len(d)]
	return o
}

// told is all of o, the room behind its lists too.
func told(o api.Obj) string {
	var s strings.Builder
	fmt.Fprintf(&s, "%d %d %q %d %d %d", o.Kind, o.N, o.B[:cap(o.B)], len(o.B), len(o.L), len(o.D))
	for _, part := range o.L[:cap(o.L)] {
		s.WriteString("[" + told(part) + "]")
	}
	for _, e := range o.D[:cap(o.D)] {
		s.WriteString("{" + e.Key + " " + told(e.Val) + "}")
	}
	return s.String()
}

// span is where a list stands in memory.
type span struct{ from, to uintptr }

func spanOf[T any](l []T) span {
	var one T
	from := uintptr(unsafe.Pointer(unsafe.SliceData(l)))
	return span{from, from + uintptr(cap(l))*unsafe.Sizeof(one)}
}

// spans are where the lists of o stand, with their room, but those without any.
func spans(o api.Obj) []span {
	l := []span{spanOf(o.B), spanOf(o.L), spanOf(o.D)}
	for _, part := range o.L[:cap(o.L)] {
		l = append(l, spans(part)...)
	}
	for _, e := range o.D[:cap(o.D)] {
		l = append(l, spans(e.Val)...)
	}
	return slices.DeleteFunc(l, func(s span) bool { return s.from == s.to })
}

// shared tells if a list shares memory with one of some others.
func shared(b []byte, l []span) bool {
	one := spanOf(b)
	return slices.ContainsFunc(l, func(s span) bool { return one.from < s.to && s.from < one.to })
}

// printing asks f twice of the same, that it answers new memory, and leaves what it is handed.
func printing(t *testing.T, what string, o api.Obj, f func(api.Obj) ([]byte, api.Errno)) {
	t.Helper()
	given := roomy(o)
	was := told(given)
	b, e := f(given)
	other, _ := f(given)
	if told(given) != was {
		t.Errorf("%s: what was handed in is changed", what)
	}
	if e != api.OK && len(b) > 0 {
		t.Errorf("%s: %v, with %d bytes", what, e, len(b))
	}
	if shared(b, append(spans(given), spanOf(other))) {
		t.Errorf("%s: an answer shares memory", what)
	}
	came := string(b)
	clear(b[:cap(b)])
	if told(given) != was || string(other) != came {
		t.Errorf("%s: what was handed in, or another answer, changed with an answer", what)
	}
	if again, _ := f(given); string(again) != came {
		t.Errorf("%s: asked again, it is %s", what, short(string(again)))
	}
}

func TestMemory(t *testing.T) {
	calls := map[string]func(api.Obj) ([]byte, api.Errno){
		"Value": print.Value,
		"Item":  func(o api.Obj) ([]byte, api.Errno) { return print.Item(api.Item{Num: 7, Obj: o}) },
		"Name":  func(o api.Obj) ([]byte, api.Errno) { return print.Name(string(o.B)), api.OK },
		"Text":  func(o api.Obj) ([]byte, api.Errno) { return print.Text(o.B), api.OK },
	}
	given := append(good(), streams()...)
	for what, o := range bad() {
		if what != "much too deep" && what != "a Stream too long" {
			given = append(given, o, arr(o))
		}
	}
	c := newChance(135)
	for range 500 {
		given = append(given, c.object(3), c.spoilt(c.object(3)), c.stream(3), c.spoilt(c.stream(3)))
	}
	for what, f := range calls {
		for _, o := range given {
			printing(t, what, o, f)
		}
	}
}

func TestSpareRoomOfEntries(t *testing.T) {
	// The place of Length is in what is printed, not in what is handed in.
	l := []api.Entry{entry("A", whole(1)), entry("Z", whole(2)), entry("room", whole(3))}
	o := stream("abc", l[:2]...)
	holds(t, "a Stream", item(7, o), came("7 0 obj\n<</A 1/Length 3/Z 2>>\nstream\nabc\nendstream\nendobj\n"))
	if l[0].Key+l[1].Key+l[2].Key != "AZroom" || len(o.D) != 2 {
		t.Errorf("the entries are changed: %v", l)
	}
}

// R2: with an error there are no bytes.

func TestNothingWithErrors(t *testing.T) {
	for what, o := range bad() {
		b, e := print.Value(o)
		c, f := print.Item(api.Item{Num: 7, Obj: o})
		d, g := print.Item(api.Item{Num: 0, Obj: o})
		if len(b)+len(c)+len(d) > 0 || e != api.ErrArg || f != api.ErrArg || g != api.ErrArg {
			t.Errorf("%s: %v, %v, %v, with %d bytes", what, e, f, g, len(b)+len(c)+len(d))
		}
	}
}

// nil and an empty list are one.

func TestEmptyLists(t *testing.T) {
	empty := func(kind int) api.Obj {
		return api.Obj{Kind: kind, B: []byte{}, L: []api.Obj{}, D: []api.Entry{}}
	}
	for kind, want := range map[int]string{api.Null: "null", api.Bool: "false", api.Int: "0", api.Real: "0.0", api.Str: "()", api.Name: "/", api.Arr: "[]", api.Dict: "<<>>"} {
		holds(t, "with empty lists", value(empty(kind)), came(want))
		holds(t, "without lists", value(api.Obj{Kind: kind}), came(want))
		holds(t, "with empty lists", item(7, empty(kind)), came("7 0 obj\n"+want+"\nendobj\n"))
	}
	holds(t, "with empty lists", item(7, empty(api.Stream)), came("7 0 obj\n<</Length 0>>\nstream\n\nendstream\nendobj\n"))
	if string(print.Text(nil)) != "()" || string(print.Text([]byte{})) != "()" {
		t.Error("a text of nothing")
	}
}

// R1: what is long comes to an end.

func TestLong(t *testing.T) {
	many := make([]api.Obj, 1<<19)
	holds(t, "many items", value(arr(many...)), came("[null"+strings.Repeat(" null", 1<<19-1)+"]"))
	l := make([]api.Entry, 1<<17)
	var want strings.Builder
	for i := range l {
		l[i] = entry(fmt.Sprintf("K%06x", i), ref(int64(i+1)))
		fmt.Fprintf(&want, "/K%06x %d 0 R", i, i+1)
	}
	holds(t, "many entries", value(dict(l...)), came("<<"+want.String()+">>"))
	holds(t, "many entries of a Stream", item(7, stream("a", l...)), came("7 0 obj\n<<"+want.String()+"/Length 1>>\nstream\na\nendstream\nendobj\n"))
	deep := nested(arr(many...), 27)
	holds(t, "many items, deep", value(deep), came(slowValue(deep)))
	l[0], l[1<<17-1] = l[1<<17-1], l[0]
	holds(t, "many entries, not rising", value(dict(l...)), refused())
	many[1<<18] = stream("")
	holds(t, "many items, one a Stream", value(arr(many...)), refused())
}

// R5: what is asked at the same time does not count.

func TestHangsOnArguments(t *testing.T) {
	given := newChance(136).stream(5)
	want := slowItem(7, given)
	for i := range 20 {
		t.Run("", func(t *testing.T) {
			t.Parallel()
			c := newChance(int64(i))
			for range 200 {
				o := c.object(4)
				holds(t, "many at once", value(o), came(slowValue(o)))
				holds(t, "many at once", item(7, given), came(want))
			}
		})
	}
}
