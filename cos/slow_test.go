package cos_test

import (
	"fmt"
	"math/rand"
	"slices"
	"sort"
	"strings"

	"pressmark/api"
)

// Objects as they stand, without the makers.

func num(kind int, n int64) api.Obj { return api.Obj{Kind: kind, N: n} }

func whole(n int64) api.Obj { return num(api.Int, n) }

func ref(n int64) api.Obj { return num(api.Ref, n) }

func text(kind int, s string) api.Obj { return api.Obj{Kind: kind, B: []byte(s)} }

func arr(l ...api.Obj) api.Obj { return api.Obj{Kind: api.Arr, L: l} }

func dict(l ...api.Entry) api.Obj { return api.Obj{Kind: api.Dict, D: l} }

func stream(data string, l ...api.Entry) api.Obj {
	return api.Obj{Kind: api.Stream, B: []byte(data), D: l}
}

func entry(key string, o api.Obj) api.Entry { return api.Entry{Key: key, Val: o} }

func null() api.Obj { return api.Obj{} }

// kinds are all kinds, and some that there are not.
func kinds() (all, none []int) {
	for kind := api.Null; kind <= api.Ref; kind++ {
		all = append(all, kind)
	}
	return all, []int{-1, -2, -10, -1 << 63, 10, 11, 77, 256, 1 << 32, 1<<63 - 1}
}

// usesN tells which kinds use a number; the others likewise.
func usesN(kind int) bool {
	return kind == api.Bool || kind == api.Int || kind == api.Real || kind == api.Ref
}

func usesB(kind int) bool { return kind == api.Str || kind == api.Name || kind == api.Stream }

func usesL(kind int) bool { return kind == api.Arr }

func usesD(kind int) bool { return kind == api.Dict || kind == api.Stream }

func isNull(o api.Obj) bool { return o.Kind <= 0 || o.Kind > 9 }

// plain is an object of a kind that may be.
func plain(kind int) api.Obj {
	switch kind {
	case api.Bool, api.Int, api.Real, api.Ref:
		return num(kind, 1)
	case api.Str, api.Name:
		return text(kind, "ab")
	case api.Arr:
		return arr(whole(1), ref(2))
	case api.Dict:
		return dict(entry("A", whole(1)), entry("B", ref(2)))
	case api.Stream:
		return stream("xy", entry("A", whole(1)), entry("B", ref(2)))
	}
	return api.Obj{Kind: kind}
}

// told is an object with all its fields, an empty list as one that is nil.
func told(o api.Obj) string {
	var all strings.Builder
	tell(&all, o)
	return all.String()
}

func tell(all *strings.Builder, o api.Obj) {
	fmt.Fprint(all, o.Kind)
	if o.N != 0 {
		fmt.Fprint(all, " ", o.N)
	}
	if len(o.B) > 0 {
		fmt.Fprintf(all, " %q", o.B)
	}
	if len(o.L) > 0 {
		all.WriteString(" [")
		for _, part := range o.L {
			tell(all, part)
			all.WriteByte(',')
		}
		all.WriteByte(']')
	}
	if len(o.D) > 0 {
		all.WriteString(" {")
		for _, e := range o.D {
			fmt.Fprintf(all, "%q: ", e.Key)
			tell(all, e.Val)
			all.WriteByte(',')
		}
		all.WriteByte('}')
	}
}

// short is a text of which no more is shown than helps.
func short(s string) string {
	if len(s) > 300 {
		return fmt.Sprintf("%s .. (%d bytes)", s[:300], len(s))
	}
	return s
}

// parts are what stands in an object.
func parts(o api.Obj) []api.Obj {
	var all []api.Obj
	if usesL(o.Kind) {
		all = append(all, o.L...)
	}
	if usesD(o.Kind) {
		for _, e := range o.D {
			all = append(all, e.Val)
		}
	}
	return all
}

// slowDepth is what Depth has to answer.
func slowDepth(o api.Obj) int {
	if !usesL(o.Kind) && !usesD(o.Kind) {
		return 0
	}
	deepest := 0
	for _, part := range parts(o) {
		if n := slowDepth(part); n > deepest {
			deepest = n
		}
	}
	return 1 + deepest
}

// slowRefs is what Refs has to answer.
func slowRefs(o api.Obj) []int {
	if o.Kind == api.Ref {
		return []int{int(o.N)}
	}
	var all []int
	for _, part := range parts(o) {
		all = append(all, slowRefs(part)...)
	}
	return all
}

// slowMay is what May has to answer.
func slowMay(o api.Obj) bool { return slowSound(o) && slowDepth(o) <= 28 }

func slowSound(o api.Obj) bool {
	if o.Kind < 0 || o.Kind > 9 {
		return false
	}
	if !usesN(o.Kind) && o.N != 0 || !usesB(o.Kind) && len(o.B) != 0 || !usesL(o.Kind) && len(o.L) != 0 || !usesD(o.Kind) && len(o.D) != 0 {
		return false
	}
	ends := map[int][2]int64{
		api.Bool: {0, 1},
		api.Int:  {-2147483647, 2147483647},
		api.Real: {-214748364799999, 214748364799999},
		api.Ref:  {1, 8388607},
	}
	if e, ok := ends[o.Kind]; ok && (o.N < e[0] || o.N > e[1]) {
		return false
	}
	most := map[int]int{api.Str: 32767, api.Name: 127, api.Stream: 16777216}
	if n, ok := most[o.Kind]; ok && len(o.B) > n {
		return false
	}
	if o.Kind == api.Name && slices.Contains(o.B, 0) {
		return false
	}
	for i, e := range o.D {
		if len(e.Key) > 127 || strings.Contains(e.Key, "\x00") || i > 0 && strings.Compare(o.D[i-1].Key, e.Key) != -1 || isNull(e.Val) {
			return false
		}
	}
	for _, part := range parts(o) {
		if part.Kind == api.Stream || !slowSound(part) {
			return false
		}
	}
	return true
}

// slowGet is what Get has to answer.
func slowGet(o api.Obj, key string) api.Obj {
	if usesD(o.Kind) {
		for _, e := range o.D {
			if e.Key == key {
				return e.Val
			}
		}
	}
	return null()
}

// slowDrop is what Drop has to answer.
func slowDrop(o api.Obj, keys ...string) api.Obj {
	if !usesD(o.Kind) {
		return o
	}
	was := o.D
	o.D = nil
	for _, e := range was {
		if !slices.Contains(keys, e.Key) {
			o.D = append(o.D, e)
		}
	}
	return o
}

// slowSet is what Set has to answer, entry by entry.
func slowSet(o api.Obj, l ...api.Entry) api.Obj {
	if !usesD(o.Kind) {
		return o
	}
	o.D = slices.Clone(o.D)
	sort.SliceStable(o.D, func(i, j int) bool { return o.D[i].Key < o.D[j].Key })
	for _, e := range l {
		o = slowDrop(o, e.Key)
		if isNull(e.Val) {
			continue
		}
		at := 0
		for at < len(o.D) && o.D[at].Key < e.Key {
			at++
		}
		o.D = slices.Insert(o.D, at, e)
	}
	return o
}

// slowDict are the entries that Dict and Stream have to make.
func slowDict(l ...api.Entry) []api.Entry {
	last := map[string]int{}
	var keys []string
	for i, e := range l {
		if _, ok := last[e.Key]; !ok {
			keys = append(keys, e.Key)
		}
		last[e.Key] = i
	}
	sort.Strings(keys)
	var all []api.Entry
	for _, key := range keys {
		if e := l[last[key]]; !isNull(e.Val) {
			all = append(all, e)
		}
	}
	return all
}

// slowSame is what Same has to answer.
func slowSame(a, b api.Obj) bool { return told(counting(a)) == told(counting(b)) }

// counting is o without what does not count.
func counting(o api.Obj) api.Obj {
	made := api.Obj{Kind: o.Kind}
	if isNull(o) {
		return null()
	}
	if usesN(o.Kind) {
		made.N = o.N
	}
	if usesB(o.Kind) {
		made.B = o.B
	}
	if usesL(o.Kind) {
		for _, part := range o.L {
			made.L = append(made.L, counting(part))
		}
	}
	if usesD(o.Kind) {
		for i, e := range o.D {
			if !slices.ContainsFunc(o.D[:i], func(other api.Entry) bool { return other.Key == e.Key }) {
				made.D = append(made.D, entry(e.Key, counting(e.Val)))
			}
		}
	}
	return made
}

// chance makes objects.
type chance struct{ *rand.Rand }

func newChance(seed int64) chance { return chance{rand.New(rand.NewSource(seed))} }

// key is one of few.
func (c chance) key() string {
	if c.Intn(40) == 0 {
		return []string{"\x00", "A\x00", strings.Repeat("k", 127), strings.Repeat("k", 128)}[c.Intn(4)]
	}
	return []string{"", "A", "AB", "B", "C", "a", "\xc3\xa9", "\xff"}[c.Intn(8)]
}

// number is one of few, or near an end of what may be.
func (c chance) number() int64 {
	ends := []int64{2147483647, 2147483648, -2147483647, -2147483648, 8388607, 8388608, 214748364799999, 214748364800000, -214748364799999, -214748364800000, 1<<63 - 1, -1 << 63}
	if c.Intn(12) == 0 {
		return ends[c.Intn(len(ends))]
	}
	return int64(c.Intn(5) - 1)
}

// object is one that may be or not, at most so deep.
func (c chance) object(deep int) api.Obj {
	kind := c.Intn(10)
	if deep == 0 && kind >= api.Arr {
		kind = c.Intn(api.Arr)
	}
	if c.Intn(60) == 0 {
		kind = []int{-1, 10, 77}[c.Intn(3)]
	}
	odd := c.Intn(60) == 0
	o := api.Obj{Kind: kind}
	if usesN(kind) || odd && c.Intn(2) == 0 {
		o.N = c.number()
	}
	if usesB(kind) || odd && c.Intn(2) == 0 {
		o.B = []byte([]string{"", "a", "b", "ab", "\xff", "abc"}[c.Intn(6)])
	}
	if deep > 0 && (usesL(kind) || odd && c.Intn(2) == 0) {
		for range c.Intn(4) {
			o.L = append(o.L, c.object(deep-1))
		}
	}
	if deep > 0 && (usesD(kind) || odd && c.Intn(2) == 0) {
		o.D = c.entries(4, deep-1)
	}
	return o
}

// entries are fewer than n, mostly by rising keys.
func (c chance) entries(n, deep int) []api.Entry {
	var l []api.Entry
	for range c.Intn(n) {
		l = append(l, entry(c.key(), c.object(deep)))
	}
	if c.Intn(5) > 0 {
		l = slowDict(l...)
	}
	return l
}

// near is o with some of it otherwise, or none.
func (c chance) near(o api.Obj) api.Obj {
	switch c.Intn(8) {
	case 0:
		o.N += int64(c.Intn(3) - 1)
	case 1:
		o.B = append(slices.Clone(o.B), "a"[:c.Intn(2)]...)
	case 2:
		o.Kind = c.Intn(12) - 1
	case 3, 4:
		o.L = slices.Clone(o.L)
		for i := range o.L {
			o.L[i] = c.near(o.L[i])
		}
	case 5, 6:
		o.D = slices.Clone(o.D)
		for i := range o.D {
			o.D[i].Val = c.near(o.D[i].Val)
		}
		if c.Intn(4) == 0 {
			o.D = append(o.D, entry(c.key(), c.object(0)))
		}
	}
	return o
}
