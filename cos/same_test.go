package cos_test

import (
	"fmt"
	"runtime/debug"
	"slices"
	"testing"

	"pressmark/api"
	"pressmark/cos"
)

// same asks if a and b are the same, by turns, and with fields that do not count.
func same(t *testing.T, what string, a, b api.Obj, want bool) {
	t.Helper()
	for _, pair := range [][2]api.Obj{{a, b}, {b, a}, {odd(a), b}, {a, odd(b)}, {odd(b), odd(a)}, {arr(whole(1), a), arr(whole(1), b)}, {dict(entry("A", b)), dict(entry("A", a))}, {stream("", entry("A", arr(a))), stream("", entry("A", arr(b)))}} {
		if cos.Same(pair[0], pair[1]) != want {
			t.Errorf("%s: %s and %s: %v, want %v", what, short(told(pair[0])), short(told(pair[1])), !want, want)
		}
	}
}

// odd is o with all fields that its kind does not use, at each depth.
func odd(o api.Obj) api.Obj {
	l := []api.Obj{ref(5)}
	if usesL(o.Kind) {
		l = nil
		for _, part := range o.L {
			l = append(l, odd(part))
		}
	}
	d := pairs("X", 1)
	if usesD(o.Kind) {
		d = nil
		for _, e := range o.D {
			d = append(d, entry(e.Key, odd(e.Val)))
		}
	}
	if !usesN(o.Kind) {
		o.N = 3
	}
	if !usesB(o.Kind) {
		o.B = []byte("odd")
	}
	o.L, o.D = l, d
	return o
}

// P10.4

func TestSameOfKinds(t *testing.T) {
	all, none := kinds()
	for _, a := range all {
		for _, b := range all {
			same(t, fmt.Sprint("kinds ", a, " and ", b), plain(a), plain(b), a == b)
			same(t, fmt.Sprint("nothing of kinds ", a, " and ", b), api.Obj{Kind: a}, api.Obj{Kind: b}, a == b)
			full := api.Obj{N: 1, B: []byte("A"), L: []api.Obj{whole(1)}, D: pairs("A", 1)}
			full.Kind = a
			other := full
			other.Kind = b
			same(t, fmt.Sprint("full kinds ", a, " and ", b), full, other, a == b)
		}
		for _, b := range none {
			same(t, fmt.Sprint("kinds ", a, " and ", b), plain(a), plain(b), a == api.Null)
		}
	}
	for _, a := range none {
		for _, b := range none {
			same(t, fmt.Sprint("kinds ", a, " and ", b), plain(a), plain(b), true)
		}
	}
}

func TestSameOfNumbers(t *testing.T) {
	numbers := []int64{-1 << 63, -1 << 32, -1, 0, 1, 2, 1 << 32, 1<<32 + 1, 1<<63 - 1}
	for _, kind := range []int{api.Bool, api.Int, api.Real, api.Ref} {
		for _, a := range numbers {
			for _, b := range numbers {
				same(t, "numbers", num(kind, a), num(kind, b), a == b)
			}
		}
	}
}

func TestSameOfBytes(t *testing.T) {
	texts := []string{"", "a", "b", "A", "ab", "ba", "abc", "abd", "bbc", "\x00", "\xff", "\u00e9", "a\x00"}
	for _, kind := range []int{api.Str, api.Name, api.Stream} {
		for _, a := range texts {
			for _, b := range texts {
				same(t, "bytes", text(kind, a), text(kind, b), a == b)
			}
		}
		same(t, "no bytes, and nil", api.Obj{Kind: kind}, api.Obj{Kind: kind, B: []byte{}}, true)
	}
}

func TestSameOfLists(t *testing.T) {
	same(t, "nil and empty", api.Obj{Kind: api.Arr}, api.Obj{Kind: api.Arr, L: []api.Obj{}}, true)
	for _, kind := range []int{api.Dict, api.Stream} {
		same(t, "nil and empty", api.Obj{Kind: kind}, api.Obj{Kind: kind, D: []api.Entry{}}, true)
	}
	lists := [][]api.Entry{nil}
	lists = append(lists, pairs("A", 1), pairs("A", 2), pairs("B", 1), pairs("A", 0), pairs("A", 1, "B", 2, "C", 3), pairs("A", 9, "B", 2, "C", 3), pairs("A", 1, "B", 9, "C", 3), pairs("A", 1, "B", 2, "C", 9), pairs("", 1, "B", 2, "C", 3), pairs("A", 1, "AA", 2, "C", 3), pairs("A", 1, "B", 2, "D", 3), pairs("A", 1, "B", 2), pairs("B", 2, "C", 3), pairs("A", 1, "B", 2, "C", 3, "D", 4), pairs("A", 1, "C", 3), pairs("B", 1, "A", 2, "C", 3))
	for i, a := range lists {
		for j, b := range lists {
			same(t, "entries", dict(a...), dict(b...), i == j)
			same(t, "entries of a stream", stream("x", a...), stream("x", b...), i == j)
			var items, others []api.Obj
			for _, e := range a {
				items = append(items, text(api.Name, e.Key), e.Val)
			}
			for _, e := range b {
				others = append(others, text(api.Name, e.Key), e.Val)
			}
			same(t, "items", arr(items...), arr(others...), i == j)
		}
	}
	same(t, "a stream's bytes", stream("x", pairs("A", 1)...), stream("y", pairs("A", 1)...), false)
	same(t, "a stream's entries", stream("x", pairs("A", 1)...), stream("x", pairs("A", 2)...), false)
	same(t, "items in another order", arr(whole(1), whole(2)), arr(whole(2), whole(1)), false)
}

func TestSameDeepWithin(t *testing.T) {
	all, _ := kinds()
	for _, kind := range all {
		if kind == api.Null {
			continue
		}
		o := plain(kind)
		for n := 1; n < 40; n++ {
			for _, turns := range []string{"a", "d", "ad"} {
				around := func(o api.Obj) api.Obj { return arr(null(), nested(o, n, turns), plain(api.Dict)) }
				if !cos.Same(around(o), around(odd(o))) {
					t.Errorf("the same in %d by %s are not", n, turns)
				}
				for _, other := range []api.Obj{null(), {Kind: kind}, {Kind: api.Bool, N: 0}, arr(o), dict(entry("A", o))} {
					if cos.Same(around(o), around(other)) || cos.Same(around(other), around(o)) {
						t.Errorf("kind %d in %d by %s is the same as %s", kind, n, turns, told(other))
					}
				}
			}
		}
	}
	same(t, "a kind that there is not, within", arr(api.Obj{Kind: 77, N: 1}), arr(null()), true)
	same(t, "a kind that there is not, within", dict(entry("A", api.Obj{Kind: -1})), dict(entry("A", null())), true)
	same(t, "a kind that there is not, and none", dict(entry("A", api.Obj{Kind: -1})), dict(), false)
}

// A key that stands twice counts by its first one.

func TestSameTwice(t *testing.T) {
	one := pairs("A", 1, "B", 2)
	for _, l := range [][]api.Entry{pairs("A", 1, "B", 2, "A", 3), pairs("A", 1, "A", 3, "B", 2), pairs("A", 1, "A", 1, "B", 2, "B", 2), pairs("A", 1, "B", 2, "B", 1, "A", 2)} {
		same(t, "a key twice", dict(l...), dict(one...), true)
		same(t, "a key twice", stream("x", l...), stream("x", one...), true)
		same(t, "a key twice in both", dict(l...), dict(pairs("A", 1, "B", 2, "A", 7)...), true)
	}
	for _, l := range [][]api.Entry{pairs("A", 3, "A", 1, "B", 2), pairs("A", 1, "A", 1), pairs("A", 1, "B", 3, "B", 2), pairs("A", 0, "A", 1, "B", 2)} {
		same(t, "a key twice", dict(l...), dict(one...), false)
		same(t, "a key twice", stream("x", l...), stream("x", one...), false)
	}
}

func TestSameByChance(t *testing.T) {
	c := newChance(107)
	alike, not := 0, 0
	for range 20000 {
		a := c.object(3)
		b := c.near(a)
		want := slowSame(a, b)
		if cos.Same(a, b) != want || cos.Same(b, a) != want {
			t.Errorf("%s and %s: want %v", told(a), told(b), want)
		}
		if !cos.Same(a, a) || !cos.Same(odd(a), a) {
			t.Errorf("%s and itself", told(a))
		}
		if want {
			alike++
		} else {
			not++
		}
	}
	if alike < 2000 || not < 2000 {
		t.Errorf("%d are the same, %d are not", alike, not)
	}
}

func refs(t *testing.T, what string, o api.Obj, want ...int) {
	t.Helper()
	if l := cos.Refs(o); !slices.Equal(l, want) {
		t.Errorf("%s: %v, want %v", what, l, want)
	}
	if l := cos.Refs(odd(o)); !slices.Equal(l, want) {
		t.Errorf("%s, with fields that do not count: %v, want %v", what, l, want)
	}
}

func TestRefs(t *testing.T) {
	refs(t, "the chapter's", cos.Arr(cos.Ref(3), cos.Dict(cos.Pair("K", cos.Ref(1))), cos.Ref(3)), 3, 1, 3)
	all, none := kinds()
	for _, kind := range append(all, none...) {
		switch {
		case kind == api.Ref:
			refs(t, "a Ref", ref(7), 7)
		case usesL(kind), usesD(kind):
			refs(t, fmt.Sprint("kind ", kind), plain(kind), 2)
			refs(t, fmt.Sprint("nothing of kind ", kind), api.Obj{Kind: kind})
		default:
			refs(t, fmt.Sprint("kind ", kind), plain(kind))
			refs(t, fmt.Sprint("kind ", kind, " within"), arr(plain(kind), dict(entry("A", plain(kind)))))
		}
	}
	refs(t, "an array's", arr(ref(5), whole(2), ref(1), null(), ref(9)), 5, 1, 9)
	refs(t, "a dictionary's", dict(entry("A", ref(5)), entry("B", whole(1)), entry("C", ref(2))), 5, 2)
	refs(t, "a stream's", stream("9 0 R", entry("A", ref(5)), entry("B", ref(5))), 5, 5)
	refs(t, "deep within, in order", arr(ref(1), arr(ref(2), dict(entry("A", ref(3)), entry("B", arr(ref(4)))), ref(5)), stream("", entry("A", ref(6))), ref(7)), 1, 2, 3, 4, 5, 6, 7)
	refs(t, "a key twice", dict(entry("A", ref(3)), entry("A", ref(1)), entry("A", arr(ref(2)))), 3, 1, 2)
	refs(t, "keys that fall", dict(entry("B", ref(3)), entry("A", ref(1))), 3, 1)
	refs(t, "numbers that may not be", arr(ref(0), ref(-1), ref(1<<40), ref(1<<63-1), ref(-1<<63)), 0, -1, 1<<40, 1<<63-1, -1<<63)
	for n := range 60 {
		refs(t, "deep", nested(ref(8), n, "aad"), 8)
	}
}

func TestRefsByChance(t *testing.T) {
	c := newChance(108)
	for range 10000 {
		o := c.object(5)
		refs(t, told(o), o, slowRefs(o)...)
	}
}

func TestCopy(t *testing.T) {
	all, none := kinds()
	for _, kind := range append(all, none...) {
		o := plain(kind)
		makes(t, fmt.Sprint("Copy of kind ", kind), copied, o, o)
		makes(t, fmt.Sprint("Copy of odd kind ", kind), copied, odd(o), odd(o))
		for n := range 30 {
			makes(t, fmt.Sprint("Copy of kind ", kind, " deep within"), copied, nested(o, n, "ad"), nested(o, n, "ad"))
		}
	}
	makes(t, "Copy of what may not be", copied, dict(pairs("B", 1, "A", 0, "B", 2)...), dict(pairs("B", 1, "A", 0, "B", 2)...))
	c := newChance(109)
	for range 3000 {
		o := c.object(4)
		makes(t, "Copy by chance", copied, o, o)
		if cos.May(cos.Copy(o)) != cos.May(o) || !cos.Same(cos.Copy(o), o) {
			t.Errorf("Copy of %s is another", told(o))
		}
	}
}

// R1: of an object that is deeper than calls could stand in one another, too.

func TestDeep(t *testing.T) {
	defer debug.SetMaxStack(debug.SetMaxStack(1 << 22))
	const deep = 200000
	o := dict(entry("A", nested(ref(4), deep, "ad")), entry("B", whole(1)))
	depth(t, "very deep", o, deep+1)
	if cos.May(o) {
		t.Error("very deep: it may be")
	}
	if l := cos.Refs(o); !slices.Equal(l, []int{4}) {
		t.Errorf("very deep: %v", l)
	}
	other := cos.Copy(o)
	if !cos.Same(o, other) || cos.Same(o, dict(entry("A", nested(ref(5), deep, "ad")), entry("B", whole(1)))) {
		t.Error("very deep: Same")
	}
	depth(t, "very deep, a value", cos.Get(o, "A"), deep)
	depth(t, "very deep, made", cos.Arr(cos.Dict(cos.Pair("A", o)), cos.Stream(nil, entry("B", o))), deep+3)
	depth(t, "very deep, set", cos.Set(o, entry("C", o)), deep+2)
	depth(t, "very deep, dropped", cos.Drop(o, "A"), 1)
}

// FuzzAll asks all of objects made by a number, as go test -fuzz asks.
func FuzzAll(f *testing.F) {
	for n := range int64(20) {
		f.Add(n, "A")
	}
	f.Fuzz(func(t *testing.T, n int64, key string) {
		c := newChance(n)
		o, l := c.object(4), c.entries(6, 2)
		l = append(l, entry(key, c.object(1)))
		if cos.May(o) != slowMay(o) || cos.May(dict(l...)) != slowMay(dict(l...)) {
			t.Errorf("May of %s", told(o))
		}
		depth(t, told(o), o, slowDepth(o))
		refs(t, told(o), o, slowRefs(o)...)
		keys(t, "by fuzz", l, slowDict(l...))
		sets(t, "Set by fuzz", o, l, slowSet(o, l...))
		sets(t, "Set by fuzz", dict(slowDict(l...)...), l, slowSet(dict(slowDict(l...)...), l...))
		makes(t, "Get by fuzz", got(key), dict(l...), slowGet(dict(l...), key))
		makes(t, "Drop by fuzz", dropped(key, "A"), dict(l...), slowDrop(dict(l...), key, "A"))
		makes(t, "Copy by fuzz", copied, o, o)
		if b := c.near(o); cos.Same(o, b) != slowSame(o, b) {
			t.Errorf("Same of %s and %s", told(o), told(b))
		}
	})
}
