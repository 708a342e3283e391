package print_test

import (
	"fmt"
	"math/big"
	"math/rand"
	"slices"
	"sort"
	"strings"
	"testing"

	"pressmark/api"
	"pressmark/cos"
	"pressmark/print"
)

// Objects as they stand, without the makers.

func num(kind int, n int64) api.Obj { return api.Obj{Kind: kind, N: n} }

func whole(n int64) api.Obj { return num(api.Int, n) }

func ref(n int64) api.Obj { return num(api.Ref, n) }

func text(kind int, s string) api.Obj { return api.Obj{Kind: kind, B: []byte(s)} }

func arr(l ...api.Obj) api.Obj { return api.Obj{Kind: api.Arr, L: l} }

func dict(l ...api.Entry) api.Obj { return api.Obj{Kind: api.Dict, D: l} }

func stream(data string, l ...api.Entry) api.Obj {
	return api.Obj{Kind: api.Stream, B: []byte(data), D: l}
}

func entry(key string, o api.Obj) api.Entry { return api.Entry{Key: key, Val: o} }

// nested is o within so many arrays and dictionaries, by turns.
func nested(o api.Obj, n int) api.Obj {
	for i := range n {
		if i%2 == 0 {
			o = arr(o)
		} else {
			o = dict(entry("K", o))
		}
	}
	return o
}

// answer is what a call answers.
type answer struct {
	b string
	e api.Errno
}

// String tells an answer.
func (a answer) String() string { return short(a.b) + ", " + a.e.Error() }

// short is a text of which no more is shown than tells where it differs.
func short(s string) string {
	if len(s) > 300 {
		return fmt.Sprintf("%d bytes, %q ..", len(s), s[:300])
	}
	return fmt.Sprintf("%q", s)
}

func came(b string) answer { return answer{b, api.OK} }

func refused() answer { return answer{"", api.ErrArg} }

// The calls.

func value(o api.Obj) answer {
	b, e := print.Value(o)
	return answer{string(b), e}
}

func item(n int, o api.Obj) answer {
	b, e := print.Item(api.Item{Num: n, Obj: o})
	return answer{string(b), e}
}

func name(s string) answer { return came(string(print.Name(s))) }

func texted(s string) answer { return came(string(print.Text([]byte(s)))) }

// holds tells if an answer is not what it should be.
func holds(t *testing.T, what string, got, want answer) {
	t.Helper()
	if got != want {
		t.Errorf("%s: %v, want %v", short(what), got, want)
	}
}

// The slow printer, by the chapter's words.

// slowName is what Name has to answer: the bytes that stand as they are are all told.
func slowName(s string) string {
	const plain = "!\"$&'*+,-.0123456789:;=?@ABCDEFGHIJKLMNOPQRSTUVWXYZ\\^_`abcdefghijklmnopqrstuvwxyz|~"
	all := []string{"/"}
	for i := range len(s) {
		if strings.Contains(plain, s[i:i+1]) {
			all = append(all, s[i:i+1])
		} else {
			all = append(all, fmt.Sprintf("#%02x", s[i]))
		}
	}
	return strings.Join(all, "")
}

// slowText is what Text has to answer.
func slowText(s string) string {
	const plain = " !\"#$%&'*+,-./0123456789:;<=>?@ABCDEFGHIJKLMNOPQRSTUVWXYZ[]^_`abcdefghijklmnopqrstuvwxyz{|}~"
	for i := range len(s) {
		if !strings.Contains(plain, s[i:i+1]) {
			return fmt.Sprintf("<%x>", s)
		}
	}
	return "(" + s + ")"
}

// slowReal is a number in parts of 100000.
func slowReal(n int64) string {
	s := strings.TrimRight(big.NewRat(n, 100000).FloatString(5), "0")
	if strings.HasSuffix(s, ".") {
		return s + "0"
	}
	return s
}

// slowValue is what Value has to answer of an object that may be, and is no Stream.
func slowValue(o api.Obj) string {
	switch o.Kind {
	case api.Bool:
		return []string{"false", "true"}[o.N]
	case api.Int:
		return fmt.Sprint(o.N)
	case api.Real:
		return slowReal(o.N)
	case api.Str:
		return slowText(string(o.B))
	case api.Name:
		return slowName(string(o.B))
	case api.Ref:
		return fmt.Sprintf("%d 0 R", o.N)
	case api.Arr:
		var all []string
		for _, part := range o.L {
			all = append(all, slowValue(part))
		}
		return "[" + strings.Join(all, " ") + "]"
	case api.Dict:
		var all []string
		for _, e := range o.D {
			all = append(all, slowName(e.Key)+" "+slowValue(e.Val))
		}
		return "<<" + strings.Join(all, "") + ">>"
	}
	return "null"
}

// slowItem is what Item has to answer of a number and an object that may be, a Stream without a key Length.
func slowItem(n int, o api.Obj) string {
	body := ""
	if o.Kind == api.Stream {
		d := append(slices.Clone(o.D), entry("Length", whole(int64(len(o.B)))))
		sort.Slice(d, func(i, j int) bool { return d[i].Key < d[j].Key })
		body = slowValue(dict(d...)) + "\nstream\n" + string(o.B) + "\nendstream"
	} else {
		body = slowValue(o)
	}
	return fmt.Sprintf("%d 0 obj\n%s\nendobj\n", n, body)
}

// wantValue is what Value has to answer.
func wantValue(o api.Obj) answer {
	if o.Kind == api.Stream || !cos.May(o) {
		return refused()
	}
	return came(slowValue(o))
}

// wantItem is what Item has to answer.
func wantItem(n int, o api.Obj) answer {
	length := func(e api.Entry) bool { return e.Key == "Length" }
	if n < 1 || n > 8388607 || !cos.May(o) || o.Kind == api.Stream && slices.ContainsFunc(o.D, length) {
		return refused()
	}
	return came(slowItem(n, o))
}

// Objects that may be, and some that may not.

// most is the greatest part of a Real, 2147483647.99999.
const most = 214748364799999

// good are objects that may be, of each kind.
func good() []api.Obj {
	l := []api.Obj{{}, num(api.Bool, 0), num(api.Bool, 1), ref(1), ref(2), ref(8388606), ref(8388607)}
	for _, n := range []int64{0, 1, 9, 10, 100000, 2147483646, 2147483647} {
		l = append(l, whole(n), whole(-n))
	}
	for _, n := range []int64{0, 1, 10, 12345, 50000, 99999, 100000, 100001, 150000, 200000, 1000000, 123456789, most - 1, most, most - 99999} {
		l = append(l, num(api.Real, n), num(api.Real, -n))
	}
	for _, s := range []string{"", "a", "a b", "(", ")", "\\", "\n", "\r", "\r\n", "\x00", "\x7f", "\x80", "\xff", "#", "#41", "/", "%", "<", ">", "<<>>", "[]", "{}", "R", "true", "1 0 R", "endobj", "\xc3\xa9", "a)b(c"} {
		l = append(l, text(api.Str, s))
		if !strings.Contains(s, "\x00") {
			l = append(l, text(api.Name, s), dict(entry(s, whole(7))))
		}
	}
	for _, s := range []string{"a", "\xff", "(", " "} {
		l = append(l, text(api.Str, strings.Repeat(s, 32767)), text(api.Name, strings.Repeat(s, 127)), dict(entry(strings.Repeat(s, 127), text(api.Str, s))))
	}
	l = append(l, arr(), dict(), arr(arr()), arr(dict()), arr(api.Obj{}), dict(entry("A", arr())), dict(entry("A", dict())))
	return append(l, nested(whole(1), 28), nested(arr(), 27), nested(dict(), 27), arr(slices.Clone(l)...), arr(ref(1), whole(0), ref(2), whole(1), whole(0), text(api.Name, "R")), dict(entry("", ref(1)), entry("A", whole(1)), entry("B", whole(0)), entry("BA", text(api.Str, "x")), entry("R", text(api.Name, "")), entry("a", api.Obj{Kind: api.Bool})))
}

// streams are Streams that may be, and say no Length.
func streams() []api.Obj {
	var l []api.Obj
	for _, data := range []string{"", "a", "\n", "\r", "\r\n", "a\n", "a\r", "a\r\n", "\na", "endstream", "\nendstream\nendobj\n", "a\nendstream", "endstream endobj 1 0 obj null", "\x00\xff(", strings.Repeat("0123456789", 1000)} {
		l = append(l, stream(data), stream(data, entry("A", whole(1))), stream(data, entry("Z", ref(1))), stream(data, entry("A", arr(whole(1))), entry("Lengt", ref(2)), entry("Length1", text(api.Str, ")")), entry("Z", dict(entry("Length", whole(9))))))
	}
	return append(l, stream("x", entry("", text(api.Name, ""))), stream("x", entry("K", nested(whole(1), 27))))
}

// bad are objects that may not be, each by one thing.
func bad() map[string]api.Obj {
	m := map[string]api.Obj{}
	for _, kind := range []int{-1, 10, 11, 77, -1 << 63, 1<<63 - 1} {
		m[fmt.Sprint("the kind ", kind)] = api.Obj{Kind: kind}
	}
	for kind := api.Null; kind <= api.Ref; kind++ {
		o := plain(kind)
		if kind != api.Bool && kind != api.Int && kind != api.Real && kind != api.Ref {
			o.N = 1
			m[fmt.Sprint("a number in the kind ", kind)] = o
		}
		if o = plain(kind); kind != api.Str && kind != api.Name && kind != api.Stream {
			o.B = []byte("a")
			m[fmt.Sprint("bytes in the kind ", kind)] = o
		}
		if o = plain(kind); kind != api.Arr {
			o.L = []api.Obj{{}}
			m[fmt.Sprint("items in the kind ", kind)] = o
		}
		if o = plain(kind); kind != api.Dict && kind != api.Stream {
			o.D = []api.Entry{entry("A", whole(1))}
			m[fmt.Sprint("entries in the kind ", kind)] = o
		}
	}
	for kind, l := range map[int][]int64{
		api.Bool: {-1, 2, 1 << 32},
		api.Int:  {1 << 31, -1 << 31, 1<<63 - 1, -1 << 63},
		api.Real: {most + 1, -most - 1, 1<<63 - 1, -1 << 63},
		api.Ref:  {0, -1, 8388608, 1 << 32, 1<<32 + 1},
	} {
		for _, n := range l {
			m[fmt.Sprintf("the number %d in the kind %d", n, kind)] = num(kind, n)
		}
	}
	m["a Str too long"] = text(api.Str, strings.Repeat("a", 32768))
	m["a Stream too long"] = stream(strings.Repeat("a", 1<<24+1))
	for what, s := range map[string]string{"too long": strings.Repeat("a", 128), "with a 0": "a\x00b", "of a 0": "\x00"} {
		m["a Name "+what] = text(api.Name, s)
		m["a key "+what] = dict(entry(s, whole(1)))
		m["a Stream's key "+what] = stream("", entry(s, whole(1)))
	}
	for what, l := range map[string][]api.Entry{
		"keys that fall":             {entry("B", whole(1)), entry("A", whole(1))},
		"keys that fall behind some": {entry("A", whole(1)), entry("C", whole(1)), entry("B", whole(1))},
		"a key twice":                {entry("A", whole(1)), entry("A", whole(1))},
		"a value Null":               {entry("A", api.Obj{})},
		"a value of none":            {entry("A", num(77, 0))},
		"a value Stream":             {entry("A", stream(""))},
	} {
		m[what] = dict(l...)
		m[what+" of a Stream"] = stream("", l...)
	}
	m["an item Stream"] = arr(stream(""))
	m["too deep"] = nested(arr(), 28)
	m["too deep, a Dict"] = nested(dict(), 28)
	m["a number too deep"] = nested(whole(1), 29)
	m["too deep, a Stream"] = stream("", entry("K", nested(whole(1), 28)))
	m["much too deep"] = nested(whole(1), 100000)
	return m
}

// plain is an object of a kind that may be.
func plain(kind int) api.Obj {
	switch kind {
	case api.Bool, api.Int, api.Real, api.Ref:
		return num(kind, 1)
	case api.Str, api.Name:
		return text(kind, "ab")
	case api.Arr:
		return arr(whole(1), ref(2))
	case api.Dict:
		return dict(entry("A", whole(1)), entry("B", ref(2)))
	case api.Stream:
		return stream("xy", entry("A", whole(1)), entry("B", ref(2)))
	}
	return api.Obj{Kind: kind}
}

// chance makes objects.
type chance struct{ *rand.Rand }

func newChance(seed int64) chance { return chance{rand.New(rand.NewSource(seed))} }

// bytes are fewer than n, mostly such as matter.
func (c chance) bytes(n int) string {
	b := make([]byte, c.Intn(n))
	among := "ab#/()<>[]{}%\\ \n\r\x01\x1f\x7f\x80\xff~!R0"
	for i := range b {
		b[i] = among[c.Intn(len(among))]
		if c.Intn(4) == 0 {
			b[i] = byte(1 + c.Intn(255))
		}
	}
	if c.Intn(2) == 0 {
		return strings.Map(func(r rune) rune { return 'a' + r%26 }, string(b))
	}
	return string(b)
}

// number is one from -most to most, small ones as often as great ones.
func (c chance) number(most int64) int64 {
	n := c.Int63n(most+1) >> c.Intn(48)
	if c.Intn(2) == 0 {
		return -n
	}
	return n
}

// entries are fewer than n, by rising keys, of values that are not Null.
func (c chance) entries(n, deep int) []api.Entry {
	var l []api.Entry
	for range c.Intn(n) {
		l = append(l, entry(c.bytes(6), c.object(deep)))
	}
	sort.SliceStable(l, func(i, j int) bool { return l[i].Key < l[j].Key })
	l = slices.CompactFunc(l, func(a, b api.Entry) bool { return a.Key == b.Key })
	return slices.DeleteFunc(l, func(e api.Entry) bool { return e.Val.Kind == api.Null })
}

// object is one that may be, no Stream, at most so deep.
func (c chance) object(deep int) api.Obj {
	kind := []int{api.Null, api.Bool, api.Int, api.Real, api.Str, api.Name, api.Ref, api.Arr, api.Dict, api.Arr, api.Dict}[c.Intn(7+4*min(deep, 1))]
	switch kind {
	case api.Bool:
		return num(kind, int64(c.Intn(2)))
	case api.Int:
		return num(kind, c.number(2147483647))
	case api.Real:
		return num(kind, c.number(most))
	case api.Ref:
		return num(kind, 1+c.Int63n(8388607)>>c.Intn(24))
	case api.Str:
		return text(kind, c.bytes(12))
	case api.Name:
		return text(kind, c.bytes(8))
	case api.Arr:
		o := arr()
		for range c.Intn(5) {
			o.L = append(o.L, c.object(deep-1))
		}
		return o
	case api.Dict:
		return dict(c.entries(5, deep-1)...)
	}
	return api.Obj{}
}

// stream is one that may be, at most so deep.
func (c chance) stream(deep int) api.Obj { return stream(c.bytes(40), c.entries(4, deep-1)...) }

// spoilt is o with one thing of it, or of something in it, otherwise: then it may be or not.
func (c chance) spoilt(o api.Obj) api.Obj {
	o = cos.Copy(o)
	switch n := c.Intn(8); {
	case n < 3 && len(o.L) > 0:
		i := c.Intn(len(o.L))
		o.L[i] = c.spoilt(o.L[i])
	case n < 3 && len(o.D) > 0:
		i := c.Intn(len(o.D))
		o.D[i].Val = c.spoilt(o.D[i].Val)
	case n == 3:
		o.Kind = c.Intn(12) - 1
	case n == 4:
		o.N = []int64{-1, 0, 1, 2, 8388608, 1 << 31, most + 1}[c.Intn(7)]
	case n == 5:
		o.L = append(o.L, c.object(1))
	case n == 6:
		o.D = append(o.D, entry(c.bytes(4), c.object(1)))
	case n == 7:
		o.B = append(o.B, "a\x00"[c.Intn(2)])
	}
	return o
}
