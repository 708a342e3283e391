package cos_test

import (
	"fmt"
	"math"
	"strings"
	"testing"

	"pressmark/api"
	"pressmark/cos"
)

// P10.2

func TestNumbers(t *testing.T) {
	holds(t, "None", cos.None(), api.Obj{Kind: 0})
	holds(t, "Bool", cos.Bool(false), api.Obj{Kind: 1})
	holds(t, "Bool", cos.Bool(true), api.Obj{Kind: 1, N: 1})
	for _, n := range []int64{math.MinInt64, -214748364800000, math.MinInt32 - 1, math.MinInt32, math.MinInt32 + 1, -100000, -1, 0, 1, 2, 8388607, 8388608, math.MaxInt32, math.MaxInt32 + 1, 214748364799999, math.MaxInt64} {
		holds(t, "Int", cos.Int(int(n)), api.Obj{Kind: 2, N: n})
		holds(t, "Real", cos.Real(n), api.Obj{Kind: 3, N: n})
		holds(t, "Ref", cos.Ref(int(n)), api.Obj{Kind: 9, N: n})
	}
	if cos.May(cos.Ref(0)) || cos.May(cos.Int(math.MaxInt32+1)) || cos.May(cos.Real(math.MaxInt64)) {
		t.Error("what may not be is not made as it is said")
	}
	if !cos.May(cos.Ref(1)) || !cos.May(cos.Int(math.MaxInt32)) || !cos.May(cos.Real(-1)) || !cos.May(cos.Bool(true)) || !cos.May(cos.Bool(false)) || !cos.May(cos.None()) {
		t.Error("what may be may not be")
	}
}

func TestBytes(t *testing.T) {
	for _, s := range []string{"", "a", "\x00", "a\x00b", "\xff\xfe", "(x)", "\u00e9", strings.Repeat("x", 127), strings.Repeat("x", 128), strings.Repeat("y", 32767), strings.Repeat("y", 32768), strings.Repeat("y", 100000)} {
		what := short(fmt.Sprintf("%q", s))
		str := func(o api.Obj) api.Obj { return cos.Str(o.B) }
		makes(t, "Str "+what, str, text(api.Str, s), api.Obj{Kind: 4, B: []byte(s)})
		named := func(api.Obj) api.Obj { return cos.Name(s) }
		makes(t, "Name "+what, named, null(), api.Obj{Kind: 5, B: []byte(s)})
		makes(t, "Stream "+what, streamed, stream(s), api.Obj{Kind: 8, B: []byte(s)})
	}
	holds(t, "nil", cos.Str(nil), api.Obj{Kind: 4})
	holds(t, "nil", cos.Stream(nil), api.Obj{Kind: 8})
}

func TestArr(t *testing.T) {
	holds(t, "none", cos.Arr(), api.Obj{Kind: 6})
	holds(t, "one", cos.Arr(cos.Int(1)), arr(whole(1)))
	holds(t, "three", cos.Arr(cos.Int(3), cos.None(), cos.Int(1)), arr(whole(3), null(), whole(1)))
	all, none := kinds()
	var many []api.Obj
	for _, kind := range append(all, none...) {
		o := plain(kind)
		makes(t, fmt.Sprint("of kind ", kind), made, arr(o), arr(o))
		makes(t, fmt.Sprint("of kind ", kind, " twice"), made, arr(o, whole(1), o), arr(o, whole(1), o))
		many = append(many, o)
	}
	makes(t, "of each kind", made, arr(many...), arr(many...))
	makes(t, "in one another", made, arr(arr(many...), dict(entry("A", arr(many...)))), arr(arr(many...), dict(entry("A", arr(many...)))))
	// What may not be.
	if cos.May(cos.Arr(cos.Stream(nil))) || cos.May(cos.Arr(api.Obj{Kind: 77})) || cos.May(cos.Arr(cos.Int(1), api.Obj{Kind: api.Int, B: []byte("x")})) || cos.May(cos.Arr(cos.Ref(0))) {
		t.Error("what may not be is not made as it is said")
	}
	if !cos.May(cos.Arr()) || !cos.May(cos.Arr(cos.None(), cos.Arr(cos.Name("A")))) {
		t.Error("what may be may not be")
	}
}

func TestPair(t *testing.T) {
	for _, key := range []string{"", "A", "a\x00", "\xff", strings.Repeat("k", 200)} {
		all, none := kinds()
		for _, kind := range append(all, none...) {
			pair := func(o api.Obj) api.Obj { return dict(cos.Pair(key, o)) }
			makes(t, fmt.Sprintf("%q, kind %d", key, kind), pair, plain(kind), dict(entry(key, plain(kind))))
		}
	}
	e := cos.Pair("K", cos.Int(5))
	if e.Key != "K" || e.Val.Kind != api.Int || e.Val.N != 5 {
		t.Errorf("Pair: %v", e)
	}
}

// keys asks that Dict and Stream make of l the entries want.
func keys(t *testing.T, what string, l, want []api.Entry) {
	t.Helper()
	makes(t, "Dict, "+what, dicted, dict(l...), dict(want...))
	makes(t, "Stream, "+what, streamed, stream("data", l...), stream("data", want...))
	makes(t, "Stream of no bytes, "+what, streamed, stream("", l...), stream("", want...))
	holds(t, what+", the slow one", dict(slowDict(l...)...), dict(want...))
}

// pairs are entries of whole numbers, but null of 0.
func pairs(l ...any) []api.Entry {
	var all []api.Entry
	for i := 0; i < len(l); i += 2 {
		o := whole(int64(l[i+1].(int)))
		if o.N == 0 {
			o = null()
		}
		all = append(all, entry(l[i].(string), o))
	}
	return all
}

func TestExampleOfDict(t *testing.T) {
	got := cos.Dict(cos.Pair("B", cos.Int(2)), cos.Pair("A", cos.Int(1)), cos.Pair("B", cos.None()))
	holds(t, "the chapter's", got, dict(entry("A", whole(1))))
	if len(got.D) != 1 || got.Kind != api.Dict {
		t.Errorf("the chapter's: %v", got)
	}
}

func TestDict(t *testing.T) {
	for _, c := range []struct {
		what    string
		l, want []api.Entry
	}{
		{"none", nil, nil},
		{"one", pairs("A", 1), pairs("A", 1)},
		{"no key", pairs("", 1), pairs("", 1)},
		{"rising", pairs("A", 1, "B", 2, "C", 3), pairs("A", 1, "B", 2, "C", 3)},
		{"falling", pairs("C", 1, "B", 2, "A", 3), pairs("A", 3, "B", 2, "C", 1)},
		{"mixed", pairs("B", 1, "C", 2, "", 3, "A", 4), pairs("", 3, "A", 4, "B", 1, "C", 2)},
		{"one the beginning of the other", pairs("ABC", 1, "AB", 2, "ABCD", 3, "A", 4), pairs("A", 4, "AB", 2, "ABC", 1, "ABCD", 3)},
		{"by bytes", pairs("\xff", 1, "\x80", 2, "a", 3, "Z", 4, "\u00e9", 5, "\x7f", 6), pairs("Z", 4, "a", 3, "\x7f", 6, "\x80", 2, "\u00e9", 5, "\xff", 1)},
		{"twice", pairs("A", 1, "A", 2), pairs("A", 2)},
		{"twice, another between", pairs("A", 1, "B", 3, "A", 2), pairs("A", 2, "B", 3)},
		{"twice, another ahead", pairs("B", 3, "A", 1, "A", 2), pairs("A", 2, "B", 3)},
		{"three times", pairs("A", 1, "A", 2, "A", 3), pairs("A", 3)},
		{"three times, others between", pairs("A", 3, "C", 4, "A", 2, "B", 5, "A", 1), pairs("A", 1, "B", 5, "C", 4)},
		{"each twice", pairs("B", 1, "A", 2, "A", 3, "B", 4), pairs("A", 3, "B", 4)},
		{"null", pairs("A", 0), nil},
		{"null twice", pairs("A", 0, "A", 0), nil},
		{"null last", pairs("A", 1, "A", 0), nil},
		{"null last, others", pairs("A", 1, "B", 2, "A", 0, "C", 3), pairs("B", 2, "C", 3)},
		{"null first", pairs("A", 0, "A", 1), pairs("A", 1)},
		{"null first, others", pairs("A", 0, "C", 2, "A", 1, "B", 3), pairs("A", 1, "B", 3, "C", 2)},
		{"null between", pairs("A", 1, "A", 0, "A", 2), pairs("A", 2)},
		{"null twice, something between", pairs("A", 0, "A", 1, "A", 0), nil},
		{"null of one, not of another", pairs("A", 0, "B", 1), pairs("B", 1)},
		{"a key with a nought", pairs("A\x00", 1, "A", 2, "\x00", 3), pairs("\x00", 3, "A", 2, "A\x00", 1)},
		{"a long key", pairs(strings.Repeat("k", 200), 1), pairs(strings.Repeat("k", 200), 1)},
	} {
		keys(t, c.what, c.l, c.want)
	}
}

func TestDictOfKinds(t *testing.T) {
	all, none := kinds()
	for _, kind := range append(all, none...) {
		o := plain(kind)
		what := fmt.Sprint("kind ", kind)
		one, both := []api.Entry{entry("A", o)}, []api.Entry{entry("A", o), entry("B", whole(1))}
		if isNull(o) {
			one, both = nil, both[1:]
		}
		keys(t, what, []api.Entry{entry("A", o)}, one)
		keys(t, what+", behind another", []api.Entry{entry("A", whole(2)), entry("A", o)}, one)
		keys(t, what+", with another", []api.Entry{entry("B", whole(1)), entry("A", o)}, both)
	}
	// Fields that Null does not use do not make it another.
	keys(t, "null with a number", []api.Entry{entry("A", api.Obj{N: 1, B: []byte("x")}), entry("B", whole(1))}, pairs("B", 1))
	odd := api.Obj{Kind: api.Int, N: 1, B: []byte("x"), L: []api.Obj{whole(1)}, D: pairs("B", 1, "A", 0)}
	keys(t, "one that may not be", []api.Entry{entry("A", odd)}, []api.Entry{entry("A", odd)})
	inner := dict(pairs("B", 1, "A", 2, "B", 0)...)
	keys(t, "a dictionary that may not be", []api.Entry{entry("A", inner)}, []api.Entry{entry("A", inner)})
	if cos.May(cos.Dict(cos.Pair("A\x00", cos.Int(1)))) || cos.May(cos.Dict(cos.Pair("A", cos.Stream(nil)))) || cos.May(cos.Dict(cos.Pair("A", odd))) || cos.May(cos.Stream(nil, cos.Pair("A", cos.Ref(0)))) {
		t.Error("what may not be is not made as it is said")
	}
}

// few are all lists of at most n entries of some keys and values.
func few(n int) [][]api.Entry {
	all := [][]api.Entry{nil}
	for at, begin := 0, 0; at < n; at++ {
		end := len(all)
		for _, l := range all[begin:end] {
			for _, key := range []string{"A", "B", "\xff"} {
				for value := range 3 {
					all = append(all, append(l[:len(l):len(l)], pairs(key, value)...))
				}
			}
		}
		begin = end
	}
	return all
}

func TestDictOfFew(t *testing.T) {
	for _, l := range few(4) {
		want := dict(slowDict(l...)...)
		holds(t, told(dict(l...)), cos.Dict(l...), want)
		want.Kind, want.B = api.Stream, []byte("x")
		holds(t, told(dict(l...)), cos.Stream([]byte("x"), l...), want)
	}
}

func TestDictOfMany(t *testing.T) {
	c := newChance(103)
	for range 50 {
		var l []api.Entry
		for i := range c.Intn(3000) {
			l = append(l, pairs(fmt.Sprint(c.Intn(1000)), i%7)...)
		}
		holds(t, "many", cos.Dict(l...), dict(slowDict(l...)...))
	}
	for range 2000 {
		l := c.entries(12, 3)
		keys(t, "by chance", l, slowDict(l...))
	}
}
