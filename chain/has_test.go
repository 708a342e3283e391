package chain_test

import (
	"fmt"
	"slices"
	"testing"

	"pressmark/api"
)

// P14.3, Has

func TestHas(t *testing.T) {
	for _, s := range append(five(), strange()...) {
		for _, o := range []api.Obj{filtered("x", name(s)), filtered("x", names(s)), parted("x", name(s), ints("Columns", 2, "Predictor", 12)), filtered("x", names("A", s)), filtered("x", names(s, "A")), filtered("x", names(slices.Repeat([]string{s}, 8)...))} {
			has(t, "its name", o, true, s)
			has(t, "its name among others", o, true, "B", s, "C")
			has(t, "its name, the last", o, true, "B", "C", s)
			has(t, "its name twice", o, true, s, s)
			has(t, "no name", o, false)
			has(t, "others", o, false, "B", "C", s+"x", "x"+s)
		}
	}
	all := many(8)
	for n := range 9 {
		o := filtered("x", names(all[:n]...))
		for i, s := range all {
			has(t, fmt.Sprint(i, " of ", n), o, slices.Contains(all[:n], s), s)
			has(t, fmt.Sprint(i, " of ", n), o, slices.Contains(all[:n], s), "A", s, "")
		}
		has(t, "all", o, n > 0, five()...)
		has(t, "none", o, false, strange()...)
		has(t, "no name", o, false)
	}
	has(t, "an empty name", filtered("", names("A", "")), true, "")
	has(t, "no empty name", filtered("", names("A", "B")), false, "")
}

func TestHasNone(t *testing.T) {
	for _, o := range []api.Obj{stream(""), stream("41>", entry("DecodeParms", whole(1))), filtered("", names()), filtered("", sample(99)), stream("", entry("K", name("FlateDecode")), entry("filter", name("FlateDecode")))} {
		has(t, "no filter", o, false)
		has(t, "no filter", o, false, "")
		has(t, "no filter", o, false, five()...)
	}
}

func TestHasWithFaults(t *testing.T) {
	for _, o := range append(others(api.Stream),
		dict(entry("Filter", name("LZWDecode"))),
		filtered("", text(api.Str, "LZWDecode")),
		filtered("", arr(name("LZWDecode"), whole(1))),
		filtered("", arr(whole(1), name("LZWDecode"))),
		filtered("", arr(names("LZWDecode"))),
		filtered("", names(slices.Repeat([]string{"LZWDecode"}, 9)...)),
		parted("", name("LZWDecode"), whole(1)),
		parted("", name("LZWDecode"), ints("EarlyChange", 0)),
		parted("", names("LZWDecode"), dict()),
		parted("", names("LZWDecode", "A"), arr(api.Obj{}, ints("Predictor", 3))),
	) {
		has(t, "a fault of Links", o, false, "LZWDecode")
		has(t, "a fault of Links", o, false, five()...)
		has(t, "a fault of Links", o, false)
	}
	// What is not undone, and bad data, are no fault of Links.
	has(t, "bad data", filtered("", name("LZWDecode")), true, "LZWDecode")
	has(t, "a strange name ahead", filtered("", names("DCTDecode", "LZWDecode")), true, "LZWDecode")
}

func TestHasByChance(t *testing.T) {
	c := newChance(146)
	count := 0
	for range 20000 {
		o := c.spoilt(stream("41>"))
		l := repeated(c.Intn(4), func(int) string { return one(c, append(five(), "X", "")...) })
		want := slowHas(o, l...)
		if want {
			count++
		}
		has(t, "by chance", o, want, l...)
	}
	if count < 500 {
		t.Errorf("no more than %d have one", count)
	}
}
