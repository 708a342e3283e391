package print_test

import (
	"fmt"
	"maps"
	"slices"
	"strings"
	"testing"

	"pressmark/api"
)

// P13.2: Item.

func TestNumbers(t *testing.T) {
	for n, want := range map[int]answer{
		1:           came("1 0 obj\nnull\nendobj\n"),
		42:          came("42 0 obj\nnull\nendobj\n"),
		8388607:     came("8388607 0 obj\nnull\nendobj\n"),
		0:           refused(),
		-1:          refused(),
		8388608:     refused(),
		-8388607:    refused(),
		1 << 32:     refused(),
		1<<32 + 1:   refused(),
		1<<63 - 1:   refused(),
		-1 << 63:    refused(),
		-1<<63 + 42: refused(),
	} {
		holds(t, fmt.Sprint("the number ", n), item(n, api.Obj{}), want)
	}
	for n := range 2000 {
		holds(t, fmt.Sprint("the number ", n), item(n, stream("")), wantItem(n, stream("")))
	}
}

func TestItems(t *testing.T) {
	for _, c := range []struct {
		o    api.Obj
		want string
	}{
		{api.Obj{}, "null"},
		{num(api.Bool, 1), "true"},
		{num(api.Bool, 0), "false"},
		{whole(-5), "-5"},
		{num(api.Real, 150000), "1.5"},
		{text(api.Str, "a b"), "(a b)"},
		{text(api.Name, "a b"), "/a#20b"},
		{ref(3), "3 0 R"},
		{arr(whole(1), ref(2)), "[1 2 0 R]"},
		{dict(entry("A", whole(1))), "<</A 1>>"},
		{dict(entry("Length", whole(1))), "<</Length 1>>"},
		{dict(entry("Length", dict(entry("Length", arr())))), "<</Length <</Length []>>>>"},
		{stream(""), "<</Length 0>>\nstream\n\nendstream"},
		{stream("abc"), "<</Length 3>>\nstream\nabc\nendstream"},
		{stream("abc", entry("A", whole(1))), "<</A 1/Length 3>>\nstream\nabc\nendstream"},
		{stream("abc", entry("Z", whole(1))), "<</Length 3/Z 1>>\nstream\nabc\nendstream"},
		{stream("abc", entry("", whole(0)), entry("A", whole(1)), entry("Lengt", whole(2)), entry("Length1", whole(3)), entry("a", ref(4))), "<</ 0/A 1/Lengt 2/Length 3/Length1 3/a 4 0 R>>\nstream\nabc\nendstream"},
		{stream("abc", entry("LengtZ", whole(1)), entry("Length ", whole(2))), "<</LengtZ 1/Length 3/Length#20 2>>\nstream\nabc\nendstream"},
		{stream("abc", entry("A", dict(entry("Length", whole(9))))), "<</A <</Length 9>>/Length 3>>\nstream\nabc\nendstream"},
		{stream("\n"), "<</Length 1>>\nstream\n\n\nendstream"},
		{stream("\r"), "<</Length 1>>\nstream\n\r\nendstream"},
		{stream("\r\n"), "<</Length 2>>\nstream\n\r\n\nendstream"},
		{stream("a\nb\n"), "<</Length 4>>\nstream\na\nb\n\nendstream"},
		{stream("\nendstream\nendobj\n"), "<</Length 18>>\nstream\n\nendstream\nendobj\n\nendstream"},
		{stream("\x00(\xff"), "<</Length 3>>\nstream\n\x00(\xff\nendstream"},
	} {
		holds(t, c.want, item(7, c.o), came("7 0 obj\n"+c.want+"\nendobj\n"))
	}
}

func TestGoodItems(t *testing.T) {
	for i, o := range append(good(), streams()...) {
		holds(t, slowItem(i+1, o), item(i+1, o), came(slowItem(i+1, o)))
		for _, n := range []int{0, -1, 8388608} {
			holds(t, fmt.Sprint("an object that may be, the number ", n), item(n, o), refused())
		}
	}
}

func TestNotAnItem(t *testing.T) {
	all := bad()
	for _, what := range slices.Sorted(maps.Keys(all)) {
		o := all[what]
		holds(t, what, item(7, o), refused())
		holds(t, what+", no number", item(0, o), refused())
		holds(t, what+", in an array", item(7, arr(whole(1), o)), refused())
		holds(t, what+", in a dictionary", item(7, dict(entry("A", whole(1)), entry("B", o))), refused())
		holds(t, what+", in a Stream", item(7, stream("a", entry("A", o), entry("B", whole(1)))), refused())
	}
	holds(t, "a Stream in an array", item(7, arr(stream("a"))), refused())
	holds(t, "a Stream in a Stream", item(7, stream("a", entry("A", stream("b")))), refused())
}

func TestLengthSaid(t *testing.T) {
	for _, o := range []api.Obj{whole(3), whole(0), ref(1), text(api.Name, ""), num(api.Bool, 0), arr(), dict()} {
		holds(t, "a Length", item(7, stream("abc", entry("Length", o))), refused())
		holds(t, "a Length among others", item(7, stream("abc", entry("A", o), entry("Length", o), entry("Z", o))), refused())
		holds(t, "a Length of a Dict", item(7, dict(entry("Length", o))), came(slowItem(7, dict(entry("Length", o)))))
	}
	holds(t, "a Length that is null", item(7, stream("abc", entry("Length", api.Obj{}))), refused())
}

func TestLongData(t *testing.T) {
	data := strings.Repeat("endstream endob\n", 1<<20)
	holds(t, "as much as may be", item(7, stream(data)), came("7 0 obj\n<</Length 16777216>>\nstream\n"+data+"\nendstream\nendobj\n"))
	holds(t, "one more", item(7, stream(data+"a")), refused())
}

func TestItemsByChance(t *testing.T) {
	c := newChance(133)
	for range 20000 {
		n := c.Intn(9) - 1
		o := c.object(3)
		if c.Intn(2) == 0 {
			o = c.stream(3)
		}
		holds(t, "by chance", item(n, o), wantItem(n, o))
		o = c.spoilt(o)
		holds(t, "by chance, spoilt", item(n, o), wantItem(n, o))
	}
}
