package print_test

import (
	"fmt"
	"maps"
	"slices"
	"strings"
	"testing"

	"pressmark/api"
	"pressmark/cos"
)

// The chapter's example.

func TestExample(t *testing.T) {
	o := cos.Dict(cos.Pair("A", cos.Arr(cos.Int(1), cos.Real(150000), cos.Name("x y"))), cos.Pair("B", cos.Str([]byte("a)"))))
	holds(t, "the example", value(o), came("<</A [1 1.5 /x#20y]/B <6129>>>"))
}

// P13.1: Value.

func TestAlone(t *testing.T) {
	for _, c := range []struct {
		o    api.Obj
		want string
	}{
		{api.Obj{}, "null"},
		{num(api.Bool, 1), "true"},
		{num(api.Bool, 0), "false"},
		{whole(0), "0"},
		{whole(-1), "-1"},
		{whole(42), "42"},
		{whole(2147483647), "2147483647"},
		{whole(-2147483647), "-2147483647"},
		{num(api.Real, 0), "0.0"},
		{num(api.Real, 50000), "0.5"},
		{num(api.Real, -50000), "-0.5"},
		{num(api.Real, 1), "0.00001"},
		{num(api.Real, -1), "-0.00001"},
		{num(api.Real, 200000), "2.0"},
		{num(api.Real, -1000000), "-10.0"},
		{num(api.Real, 314159), "3.14159"},
		{num(api.Real, 214748364799999), "2147483647.99999"},
		{num(api.Real, -214748364799999), "-2147483647.99999"},
		{ref(1), "1 0 R"},
		{ref(8388607), "8388607 0 R"},
		{text(api.Str, ""), "()"},
		{text(api.Str, "a b"), "(a b)"},
		{text(api.Str, "a\n"), "<610a>"},
		{text(api.Name, ""), "/"},
		{text(api.Name, "A#b"), "/A#23b"},
		{arr(), "[]"},
		{arr(api.Obj{}), "[null]"},
		{arr(whole(1), whole(2)), "[1 2]"},
		{arr(ref(1), whole(0), ref(2)), "[1 0 R 0 2 0 R]"},
		{arr(text(api.Name, "A"), text(api.Str, "b"), text(api.Str, "("), arr(), dict(), num(api.Bool, 0)), "[/A (b) <28> [] <<>> false]"},
		{dict(), "<<>>"},
		{dict(entry("A", whole(1))), "<</A 1>>"},
		{dict(entry("A", text(api.Name, "B")), entry("B", text(api.Str, "c")), entry("C", ref(3))), "<</A /B/B (c)/C 3 0 R>>"},
		{dict(entry("", whole(1)), entry(" ", whole(2)), entry("\xff", whole(3))), "<</ 1/#20 2/#ff 3>>"},
		{dict(entry("Length", whole(1))), "<</Length 1>>"},
		{arr(arr(), arr(arr(whole(1)), dict(entry("A", arr(whole(2), dict()))))), "[[] [[1] <</A [2 <<>>]>>]]"},
		{dict(entry("A", dict(entry("B", dict())))), "<</A <</B <<>>>>>>"},
	} {
		holds(t, c.want, value(c.o), came(c.want))
	}
}

func TestDeep(t *testing.T) {
	for n := range 29 {
		holds(t, fmt.Sprint("arrays ", n), value(within(whole(7), n)), came(strings.Repeat("[", n)+"7"+strings.Repeat("]", n)))
		o := nested(whole(7), n)
		holds(t, fmt.Sprint("by turns ", n), value(o), came(slowValue(o)))
	}
	holds(t, "arrays too deep", value(within(whole(7), 29)), refused())
}

// within is o in so many arrays.
func within(o api.Obj, n int) api.Obj {
	for range n {
		o = arr(o)
	}
	return o
}

func TestGood(t *testing.T) {
	for _, o := range good() {
		holds(t, slowValue(o), value(o), came(slowValue(o)))
		if cos.Depth(o) < 28 {
			holds(t, "in an array, "+slowValue(o), value(arr(o, o)), came("["+slowValue(o)+" "+slowValue(o)+"]"))
		}
		if cos.Depth(o) < 28 && o.Kind != api.Null {
			holds(t, "in a dictionary, "+slowValue(o), value(dict(entry("B", o), entry("a", o))), came("<</B "+slowValue(o)+"/a "+slowValue(o)+">>"))
		}
	}
}

func TestNotAValue(t *testing.T) {
	for _, o := range streams() {
		holds(t, "a Stream", value(o), refused())
	}
	holds(t, "a Stream with a Length", value(stream("", entry("Length", whole(0)))), refused())
	all := bad()
	for _, what := range slices.Sorted(maps.Keys(all)) {
		o := all[what]
		holds(t, what, value(o), refused())
		holds(t, what+", in an array", value(arr(whole(1), o)), refused())
		holds(t, what+", in a dictionary", value(dict(entry("A", whole(1)), entry("B", o), entry("C", whole(2)))), refused())
		holds(t, what+", deeper", value(arr(dict(entry("A", arr(o, whole(1)))))), refused())
	}
}

func TestValuesByChance(t *testing.T) {
	c := newChance(131)
	for range 20000 {
		o := c.object(4)
		holds(t, "by chance", value(o), came(slowValue(o)))
		o = c.spoilt(o)
		holds(t, "by chance, spoilt", value(o), wantValue(o))
	}
}
