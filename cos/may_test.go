package cos_test

import (
	"fmt"
	"math"
	"slices"
	"strings"
	"testing"

	"pressmark/api"
	"pressmark/cos"
)

// may asks if an object may be, and each that it stands in just as it may.
func may(t *testing.T, what string, o api.Obj, want bool) {
	t.Helper()
	if cos.May(o) != want {
		t.Errorf("%s: %v, want %v", what, !want, want)
	}
	if slowMay(o) != want {
		t.Errorf("%s: the slow one answers %v, want %v", what, !want, want)
	}
	if isNull(o) || o.Kind == api.Stream {
		return
	}
	last := arr(whole(1), o)
	value := dict(entry("A", whole(1)), entry("B", o), entry("C", ref(1)))
	for name, outer := range map[string]api.Obj{
		"last of an array":           last,
		"first of an array":          arr(o, null()),
		"value of a dictionary":      value,
		"value of a stream":          stream("x", entry("A", o)),
		"in an array in an array":    arr(text(api.Str, "a"), arr(last, whole(2))),
		"in a dictionary in a value": dict(entry("A", arr()), entry("Z", value)),
	} {
		within := want && slowDepth(outer) <= 28
		if cos.May(outer) != within {
			t.Errorf("%s, %s: %v, want %v", what, name, !within, within)
		}
	}
}

// P10.1

func TestMayOfKinds(t *testing.T) {
	all, none := kinds()
	for _, kind := range all {
		may(t, fmt.Sprint("kind ", kind), plain(kind), true)
	}
	for _, kind := range none {
		o := api.Obj{Kind: kind}
		may(t, fmt.Sprint("kind ", kind), o, false)
		may(t, fmt.Sprint("kind ", kind, " in an array"), arr(o), false)
		may(t, fmt.Sprint("kind ", kind, " in a dictionary"), dict(entry("A", o)), false)
		may(t, fmt.Sprint("kind ", kind, " in a stream"), stream("", entry("A", o)), false)
	}
}

func TestMayOfFields(t *testing.T) {
	all, _ := kinds()
	for _, kind := range all {
		o := plain(kind)
		for _, n := range []int64{1, -1, math.MaxInt64, math.MinInt64} {
			if odd := o; !usesN(kind) {
				odd.N = n
				may(t, fmt.Sprint("a number of kind ", kind), odd, false)
			}
		}
		for _, s := range []string{"a", "\x00", "ab"} {
			if odd := o; !usesB(kind) {
				odd.B = []byte(s)
				may(t, fmt.Sprint("bytes of kind ", kind), odd, false)
			}
		}
		if odd := o; !usesL(kind) {
			for _, part := range []api.Obj{null(), whole(1), arr()} {
				odd.L = []api.Obj{part}
				may(t, fmt.Sprint("items of kind ", kind), odd, false)
			}
		}
		if odd := o; !usesD(kind) {
			for _, part := range []api.Obj{null(), whole(1), dict()} {
				odd.D = []api.Entry{entry("A", part)}
				may(t, fmt.Sprint("entries of kind ", kind), odd, false)
			}
		}
		even := o
		if len(o.B) == 0 {
			even.B = []byte{}
		}
		if len(o.L) == 0 {
			even.L = []api.Obj{}
		}
		if len(o.D) == 0 {
			even.D = []api.Entry{}
		}
		may(t, fmt.Sprint("empty lists of kind ", kind), even, true)
		may(t, fmt.Sprint("empty lists with room of kind ", kind), roomy(o), true)
	}
}

func TestMayOfNothing(t *testing.T) {
	for _, kind := range []int{api.Null, api.Bool, api.Int, api.Real, api.Str, api.Name, api.Arr, api.Dict, api.Stream} {
		may(t, fmt.Sprint("nothing of kind ", kind), api.Obj{Kind: kind}, true)
	}
	may(t, "nothing of a Ref", api.Obj{Kind: api.Ref}, false)
}

func TestMayOfNumbers(t *testing.T) {
	const mostReal = 2147483647*100000 + 99999
	for kind, ends := range map[int][2]int64{
		api.Bool: {0, 1},
		api.Int:  {-2147483647, 2147483647},
		api.Real: {-mostReal, mostReal},
		api.Ref:  {1, 8388607},
	} {
		for _, n := range []int64{
			math.MinInt64, math.MinInt64 + 1, -mostReal - 2, -mostReal - 1, -mostReal, -mostReal + 1, -2147483647*100000 - 1, -2147483647 * 100000,
			math.MinInt32 - 1, math.MinInt32, math.MinInt32 + 1, math.MinInt32 + 2, -8388608, -8388607, -2, -1, 0, 1, 2, 255, 256,
			8388606, 8388607, 8388608, math.MaxInt32 - 1, math.MaxInt32, math.MaxInt32 + 1, 1 << 32, 1<<32 + 1,
			2147483647 * 100000, 2147483647*100000 + 1, mostReal - 1, mostReal, mostReal + 1, mostReal + 2, math.MaxInt64 - 1, math.MaxInt64,
		} {
			may(t, fmt.Sprint(n, " of kind ", kind), num(kind, n), ends[0] <= n && n <= ends[1])
		}
	}
}

func TestMayOfLengths(t *testing.T) {
	for _, c := range []struct{ kind, most int }{{api.Str, 32767}, {api.Name, 127}, {api.Stream, 1 << 24}} {
		for _, n := range []int{0, 1, c.most - 1, c.most, c.most + 1, c.most + 2, 2 * c.most} {
			may(t, fmt.Sprint(n, " bytes of kind ", c.kind), text(c.kind, strings.Repeat("x", n)), n <= c.most)
		}
	}
	may(t, "a long string", text(api.Str, strings.Repeat("\x00", 32767)), true)
	may(t, "a stream of noughts", stream("\x00\x00"), true)
	for _, n := range []int{0, 1, 126, 127, 128, 129, 255, 256, 32767, 32768} {
		key := strings.Repeat("x", n)
		may(t, fmt.Sprint("a key of ", n), dict(entry(key, whole(1))), n <= 127)
		may(t, fmt.Sprint("a key of a stream of ", n), stream("", entry(key, whole(1))), n <= 127)
		may(t, fmt.Sprint("the first key of ", n), dict(entry(key, whole(1)), entry("y", whole(1))), n <= 127)
		may(t, fmt.Sprint("the last key of ", n), dict(entry(" ", whole(1)), entry("a", whole(1)), entry(key+"x", whole(1))), n < 127)
		// Bytes, not signs, are counted.
		signs := strings.Repeat("\u00e9", n/2)
		may(t, fmt.Sprint("a name of signs of ", n), text(api.Name, signs), len(signs) <= 127)
		may(t, fmt.Sprint("a key of signs of ", n), dict(entry(signs, whole(1))), len(signs) <= 127)
	}
}

func TestMayOfNoughts(t *testing.T) {
	full := strings.Repeat("x", 126)
	for _, s := range []string{"\x00", "\x00a", "a\x00", "a\x00b", "\x00\x00", "\x00" + full, full + "\x00", full[:60] + "\x00" + full[:60]} {
		may(t, fmt.Sprintf("a name %q", s), text(api.Name, s), false)
		may(t, fmt.Sprintf("a string %q", s), text(api.Str, s), true)
		may(t, fmt.Sprintf("a stream %q", s), stream(s), true)
		may(t, fmt.Sprintf("a key %q", s), dict(entry(s, whole(1))), false)
		may(t, fmt.Sprintf("a key of a stream %q", s), stream("", entry(s, whole(1))), false)
		l := []api.Entry{entry("a", whole(1)), entry(s, whole(1)), entry("b", whole(1))}
		slices.SortFunc(l, func(a, b api.Entry) int { return strings.Compare(a.Key, b.Key) })
		may(t, fmt.Sprintf("a key among others %q", s), dict(l...), false)
	}
	for c := 1; c < 256; c++ {
		one := string([]byte{byte(c)})
		may(t, fmt.Sprintf("a name %q", one), text(api.Name, one), true)
		may(t, fmt.Sprintf("a key %q", one), dict(entry(one, whole(1))), true)
	}
}

func TestMayOfKeys(t *testing.T) {
	rising := []string{"", "\x01", " ", "A", "AA", "AB", "B", "Z", "a", "aa", "\x7f", "\x80", "\xc3", "\xc3\xa9", "\xff", "\xff\x01", "\xff\xff"}
	for i, first := range rising {
		for j, second := range rising {
			may(t, fmt.Sprintf("%q, %q", first, second), dict(entry(first, whole(1)), entry(second, whole(2))), i < j)
			may(t, fmt.Sprintf("%q, %q of a stream", first, second), stream("", entry(first, whole(1)), entry(second, whole(1))), i < j)
			for k, third := range rising {
				may(t, fmt.Sprintf("%q, %q, %q", first, second, third), dict(entry(first, whole(1)), entry(second, whole(1)), entry(third, whole(1))), i < j && j < k)
			}
		}
	}
	var l []api.Entry
	for _, key := range rising {
		l = append(l, entry(key, ref(1)))
	}
	may(t, "many keys", dict(l...), true)
	l[7], l[8] = l[8], l[7]
	may(t, "many keys, two of them out of order", dict(l...), false)
}

func TestMayOfParts(t *testing.T) {
	all, _ := kinds()
	for _, kind := range all {
		o := plain(kind)
		item := kind != api.Stream
		value := item && kind != api.Null
		may(t, fmt.Sprint("alone, kind ", kind), arr(o), item)
		may(t, fmt.Sprint("the first item, kind ", kind), arr(o, whole(1), whole(1)), item)
		may(t, fmt.Sprint("an item between, kind ", kind), arr(null(), o, null()), item)
		may(t, fmt.Sprint("the last item, kind ", kind), arr(whole(1), o), item)
		may(t, fmt.Sprint("an only value, kind ", kind), dict(entry("A", o)), value)
		may(t, fmt.Sprint("the first value, kind ", kind), dict(entry("A", o), entry("B", whole(1))), value)
		may(t, fmt.Sprint("the last value, kind ", kind), dict(entry("A", whole(1)), entry("B", o)), value)
		may(t, fmt.Sprint("a stream's value, kind ", kind), stream("x", entry("A", o)), value)
		may(t, fmt.Sprint("a stream's last value, kind ", kind), stream("x", entry("A", whole(1)), entry("B", o)), value)
	}
}

// nested is o with so many around it, by turns of what is told.
func nested(o api.Obj, n int, turns string) api.Obj {
	for i := range n {
		if turns[i%len(turns)] == 'a' {
			o = arr(o)
		} else {
			o = dict(entry("A", o))
		}
	}
	return o
}

func TestMayOfDepth(t *testing.T) {
	for _, turns := range []string{"a", "d", "ad", "da", "aad"} {
		for _, inner := range []api.Obj{whole(1), text(api.Str, "a"), ref(1)} {
			for n := range 40 {
				o := nested(inner, n, turns)
				may(t, fmt.Sprint(n, " by ", turns), o, n <= 28)
				may(t, fmt.Sprint(n, " by ", turns, ", beneath a stream"), stream("x", entry("A", o)), n <= 27)
				may(t, fmt.Sprint(n, " by ", turns, ", behind others"), arr(arr(), whole(1), arr(arr()), o), n <= 27)
				may(t, fmt.Sprint(n, " by ", turns, ", ahead of others"), dict(entry("A", o), entry("B", whole(1)), entry("C", arr())), n <= 27)
			}
		}
		for _, inner := range []api.Obj{arr(), dict()} {
			for _, n := range []int{26, 27, 28, 29} {
				may(t, fmt.Sprint(n, " by ", turns, " and one that is empty"), nested(inner, n, turns), n <= 27)
			}
		}
	}
}

func TestMayDeepWithin(t *testing.T) {
	odd := []api.Obj{{Kind: -1}, {Kind: 10}, {N: 1}, num(api.Bool, 2), num(api.Ref, 0), text(api.Name, "\x00"), {Kind: api.Int, B: []byte("x")}, arr(stream("")), dict(entry("A", null())), dict(entry("B", whole(1)), entry("A", whole(1)))}
	for n := 1; n < 27; n++ {
		for i, o := range odd {
			for _, turns := range []string{"a", "d", "ad"} {
				if outer := nested(o, n, turns); cos.May(outer) {
					t.Errorf("one that may not be, the %dth, in %d by %s", i, n, turns)
				}
			}
		}
	}
}

func TestMayByChance(t *testing.T) {
	c := newChance(101)
	may, not := 0, 0
	for range 20000 {
		o := c.object(4)
		want := slowMay(o)
		if cos.May(o) != want {
			t.Errorf("%s: %v", short(told(o)), !want)
		}
		if want {
			may++
		} else {
			not++
		}
	}
	if may < 2000 || not < 2000 {
		t.Errorf("%d may be, %d may not", may, not)
	}
}

// Depth

func depth(t *testing.T, what string, o api.Obj, want int) {
	t.Helper()
	if n := cos.Depth(o); n != want {
		t.Errorf("%s: %d, want %d", what, n, want)
	}
}

func TestDepthOfKinds(t *testing.T) {
	all, none := kinds()
	for _, kind := range append(all, none...) {
		want := 0
		if kind == api.Arr || kind == api.Dict || kind == api.Stream {
			want = 1
		}
		depth(t, fmt.Sprint("kind ", kind), plain(kind), want)
		depth(t, fmt.Sprint("nothing of kind ", kind), api.Obj{Kind: kind}, want)
		depth(t, fmt.Sprint("kind ", kind, " in an array"), arr(plain(kind)), want+1)
		depth(t, fmt.Sprint("kind ", kind, " in a dictionary"), dict(entry("A", plain(kind))), want+1)
		depth(t, fmt.Sprint("kind ", kind, " in a stream"), stream("", entry("A", plain(kind))), want+1)
		// Fields that a kind does not use do not count.
		odd := plain(kind)
		if !usesL(kind) {
			odd.L = []api.Obj{arr(arr(arr()))}
		}
		if !usesD(kind) {
			odd.D = []api.Entry{entry("A", arr(arr(arr())))}
		}
		depth(t, fmt.Sprint("odd of kind ", kind), odd, want)
	}
}

func TestDepth(t *testing.T) {
	deep := nested(whole(1), 5, "ad")
	depth(t, "the first", arr(deep, arr(), whole(1)), 6)
	depth(t, "the middle", arr(arr(), deep, arr(arr())), 6)
	depth(t, "the last", arr(whole(1), arr(arr()), deep), 6)
	depth(t, "the first value", dict(entry("A", deep), entry("B", arr()), entry("C", whole(1))), 6)
	depth(t, "the middle value", dict(entry("A", arr()), entry("B", deep), entry("C", arr())), 6)
	depth(t, "the last value", stream("x", entry("A", arr()), entry("B", arr()), entry("C", deep)), 6)
	depth(t, "a stream within", arr(stream("x", entry("A", deep))), 7)
	depth(t, "a key twice, the first is deeper", dict(entry("A", arr(arr())), entry("A", arr())), 3)
	depth(t, "a key twice, the second is deeper", dict(entry("A", whole(1)), entry("A", arr(arr()))), 3)
	depth(t, "a key thrice", dict(entry("A", whole(1)), entry("A", arr()), entry("B", whole(1)), entry("A", deep)), 6)
	depth(t, "keys that fall", dict(entry("B", whole(1)), entry("A", arr())), 2)
	depth(t, "a value that is null", dict(entry("A", null())), 1)
	for n := range 100 {
		for _, turns := range []string{"a", "d", "ad"} {
			depth(t, fmt.Sprint(n, " by ", turns), nested(whole(1), n, turns), n)
			depth(t, fmt.Sprint(n, " by ", turns, ", beneath a stream"), stream("", entry("A", nested(null(), n, turns))), n+1)
		}
	}
}

func TestDepthByChance(t *testing.T) {
	c := newChance(102)
	for range 10000 {
		o := c.object(6)
		depth(t, short(told(o)), o, slowDepth(o))
	}
}
