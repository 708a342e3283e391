package xstream_test

import (
	"encoding/hex"
	"fmt"
	"math/rand"
	"slices"
	"strings"

	"pressmark/api"
	"pressmark/chain"
	"pressmark/cos"
	"pressmark/lex"
	"pressmark/parse"
	"pressmark/predict"
	"pressmark/print"
	"pressmark/table"
)

// Objects as they stand, without the makers.

func num(kind int, n int64) api.Obj { return api.Obj{Kind: kind, N: n} }

func whole(n int) api.Obj { return num(api.Int, int64(n)) }

func text(kind int, s string) api.Obj { return api.Obj{Kind: kind, B: []byte(s)} }

func name(s string) api.Obj { return text(api.Name, s) }

func arr(l ...api.Obj) api.Obj { return api.Obj{Kind: api.Arr, L: l} }

func ints(l ...int) api.Obj {
	o := arr()
	for _, n := range l {
		o.L = append(o.L, whole(n))
	}
	return o
}

func dict(l ...api.Entry) api.Obj { return api.Obj{Kind: api.Dict, D: l} }

func entry(key string, o api.Obj) api.Entry { return api.Entry{Key: key, Val: o} }

func stream(data string, l ...api.Entry) api.Obj {
	return api.Obj{Kind: api.Stream, B: []byte(data), D: l}
}

// with is a stream with an entry in the place of the one of its key, without any of that key if the value is Null.
func with(o api.Obj, key string, val api.Obj) api.Obj {
	o.D = slices.DeleteFunc(slices.Clone(o.D), func(e api.Entry) bool { return e.Key == key })
	if val.Kind != api.Null {
		o.D = append(o.D, entry(key, val))
	}
	return o
}

// filtered is a stream whose data are put through links.
func filtered(o api.Obj, links ...chain.Link) api.Obj {
	made, e := chain.Encode(o.B, links...)
	if e != api.OK {
		panic(e)
	}
	o.B = made.B
	o.D = slices.Concat(made.D, o.D)
	return o
}

// nested is so many arrays and dictionaries in one another, by turns.
func nested(n int) api.Obj {
	o := arr()
	for i := range n - 1 {
		if i%2 == 0 {
			o = dict(entry("K", o))
		} else {
			o = arr(o)
		}
	}
	return o
}

// brackets are so many arrays in one another, as a text.
func brackets(n int) string { return strings.Repeat("[", n) + strings.Repeat("]", n) }

// sample is an object of a kind.
func sample(kind int) api.Obj {
	switch kind {
	case api.Bool, api.Int, api.Ref:
		return num(kind, 1)
	case api.Real:
		return num(kind, api.One)
	case api.Str, api.Name:
		return text(kind, "XRef")
	case api.Arr:
		return ints(1, 1, 1)
	case api.Dict:
		return dict(entry("Size", whole(1)), entry("Type", name("XRef")), entry("W", ints(1, 1, 1)))
	case api.Stream:
		return stream("\x01\x02\x03", sample(api.Dict).D...)
	}
	// Of these kinds no field counts.
	return api.Obj{Kind: kind, N: 1, B: []byte("XRef"), L: ints(1, 1, 1).L, D: sample(api.Dict).D}
}

// noughts are kinds that are as Null, and Null.
func noughts() []int { return []int{api.Null, -1, 10, 11, 99, -1 << 63, 1<<63 - 1} }

// others are samples of each kind but some, and of kinds that there are not.
func others(but ...int) []api.Obj {
	var l []api.Obj
	for _, kind := range append(noughts(), 1, 2, 3, 4, 5, 6, 7, 8, 9) {
		if !slices.Contains(but, kind) {
			l = append(l, sample(kind))
		}
	}
	return l
}

// Links.

func link(s string) chain.Link { return chain.Link{Name: s} }

func shaped(s string, predictor, colors, columns int) chain.Link {
	return chain.Link{Name: s, Shape: predict.Shape{Predictor: predictor, Colors: colors, Columns: columns}}
}

// five are the names of all filters that can be undone.
func five() []string {
	return []string{"FlateDecode", "LZWDecode", "ASCIIHexDecode", "ASCII85Decode", "RunLengthDecode"}
}

// links are some rows of them that any data go through.
func links() [][]chain.Link {
	l := [][]chain.Link{nil, {}, {link("ASCIIHexDecode"), link("FlateDecode")}, {shaped("FlateDecode", 12, 1, 1)}, {link("RunLengthDecode"), shaped("LZWDecode", 2, 1, 1), link("ASCII85Decode")}}
	for _, s := range five() {
		l = append(l, []chain.Link{link(s)})
	}
	return l
}

// Rows, in short.

func free(num, at, gen int) table.Row { return table.Row{Num: num, Kind: 0, At: at, Gen: gen} }

func placed(num, at, gen int) table.Row { return table.Row{Num: num, Kind: 1, At: at, Gen: gen} }

func packed(num, at, gen int) table.Row { return table.Row{Num: num, Kind: 2, At: at, Gen: gen} }

func item(num int, o api.Obj) api.Item { return api.Item{Num: num, Obj: o} }

// answer is what a call answers, as a text, with how many bytes it tells of.
type answer struct {
	told string
	n    int
	e    api.Errno
}

// String tells an answer.
func (a answer) String() string {
	return fmt.Sprintf("%s, of %d bytes, %d (%v)", short(a.told), a.n, a.e, a.e)
}

// short is a text of which no more is shown than tells where it differs.
func short(s string) string {
	if len(s) > 300 {
		return fmt.Sprintf("%d signs, %s ..", len(s), s[:300])
	}
	return s
}

// show is all of o, fields that its kind does not use too.
func show(o api.Obj) string {
	var s strings.Builder
	fmt.Fprintf(&s, "%d.%d%q", o.Kind, o.N, o.B)
	for _, part := range o.L {
		fmt.Fprintf(&s, "[%s]", show(part))
	}
	for _, e := range o.D {
		fmt.Fprintf(&s, "{%q %s}", e.Key, show(e.Val))
	}
	return s.String()
}

// The answers.

func cameRows(n int, rows ...table.Row) answer {
	var s strings.Builder
	for _, r := range rows {
		fmt.Fprintf(&s, "%d: %d %d %d, ", r.Num, r.Kind, r.At, r.Gen)
	}
	return answer{s.String(), n, api.OK}
}

func cameItems(n int, items ...api.Item) answer {
	var s strings.Builder
	for _, i := range items {
		fmt.Fprintf(&s, "%d: %s, ", i.Num, show(i.Obj))
	}
	return answer{s.String(), n, api.OK}
}

func made(o api.Obj) answer { return answer{show(o), 0, api.OK} }

// fault is a reader's error, refused a writer's.

func fault(e api.Errno) answer { return answer{e: e} }

func refused(e api.Errno) answer { return answer{show(api.Obj{}), 0, e} }

// The slow ones, by the chapter's words.

// value is that of the first entry of a key; Null, if it is of a kind that there is not.
func value(o api.Obj, key string) api.Obj {
	for _, e := range o.D {
		if e.Key == key {
			if e.Val.Kind < api.Null || e.Val.Kind > api.Ref {
				return api.Obj{}
			}
			return e.Val
		}
	}
	return api.Obj{}
}

// is tells if o is a stream of a type.
func is(o api.Obj, kind string) bool {
	t := value(o, "Type")
	return o.Kind == api.Stream && t.Kind == api.Name && string(t.B) == kind
}

// in tells if o is a whole number from least to most.
func in(o api.Obj, least, most int64) bool {
	return o.Kind == api.Int && o.N >= least && o.N <= most
}

// allIn tells if o is an array of such.
func allIn(o api.Obj, least, most int64) bool {
	return o.Kind == api.Arr && !slices.ContainsFunc(o.L, func(one api.Obj) bool { return !in(one, least, most) })
}

const greatest = 8388607

// slowIndex are the pairs that o tells, of each the first number and the one behind the last; false, if it tells none.
func slowIndex(o api.Obj) ([][2]int64, bool) {
	index := value(o, "Index")
	if index.Kind == api.Null {
		index = arr(whole(0), value(o, "Size"))
	}
	if !allIn(index, 0, 1<<62) || len(index.L)%2 == 1 {
		return nil, false
	}
	var pairs [][2]int64
	for i := 0; i < len(index.L); i += 2 {
		first, many := index.L[i].N, index.L[i+1].N
		if first > greatest || first+many-1 > greatest {
			return nil, false
		}
		pairs = append(pairs, [2]int64{first, first + many})
	}
	return pairs, true
}

// slowRows is what Rows has to answer.
func slowRows(o api.Obj, most int) answer {
	w := value(o, "W")
	pairs, ok := slowIndex(o)
	if !is(o, "XRef") || !allIn(w, 0, 4) || len(w.L) != 3 || !in(value(o, "Size"), 1, greatest+1) || !ok {
		return fault(api.ErrForm)
	}
	sum := w.L[0].N + w.L[1].N + w.L[2].N
	if sum == 0 {
		return fault(api.ErrForm)
	}
	b, e := chain.Decode(o, most)
	if e != api.OK {
		return fault(e)
	}
	all := int64(0)
	for _, p := range pairs {
		all += p[1] - p[0]
	}
	if int64(len(b)) < all*sum {
		return fault(api.ErrShort)
	}
	if int64(len(b)) > all*sum {
		return fault(api.ErrLong)
	}
	var rows []table.Row
	rest := b
	for _, p := range pairs {
		for n := p[0]; n < p[1]; n++ {
			var told [3]int
			for i, width := range w.L {
				for _, c := range rest[:width.N] {
					told[i] = told[i]*256 + int(c)
				}
				rest = rest[width.N:]
			}
			if w.L[0].N == 0 {
				told[0] = 1
			}
			if told[0] > 2 {
				return fault(api.ErrForm)
			}
			rows = append(rows, table.Row{Num: int(n), Kind: told[0], At: told[1], Gen: told[2]})
		}
	}
	return cameRows(len(b), rows...)
}

// slowNumber is the whole number that stands next, at least so great, and what stands behind it.
func slowNumber(b string, least, most int64) (int64, string, api.Errno) {
	x := lex.New([]byte(b))
	t, e := x.Token()
	switch {
	case e != api.OK:
		return 0, "", e
	case t.Kind == lex.End:
		return 0, "", api.ErrShort
	case t.Kind != lex.Whole || t.N < least || t.N > most:
		return 0, "", api.ErrForm
	}
	return t.N, b[x.Pos():], api.OK
}

// slowObjects is what Objects has to answer.
func slowObjects(o api.Obj, depth, most int) answer {
	many, first := value(o, "N"), value(o, "First")
	if !is(o, "ObjStm") || !in(many, 0, 65535) || !in(first, 0, 1<<63-1) {
		return fault(api.ErrForm)
	}
	b, e := chain.Decode(o, most)
	if e != api.OK {
		return fault(e)
	}
	if first.N > int64(len(b)) {
		return fault(api.ErrShort)
	}
	var nums, places []int64
	rest := string(b)
	for range many.N {
		var n, at int64
		if n, rest, e = slowNumber(rest, 1, greatest); e != api.OK {
			return fault(e)
		}
		if at, rest, e = slowNumber(rest, 0, 1<<62); e != api.OK {
			return fault(e)
		}
		nums, places = append(nums, n), append(places, at)
	}
	if int64(len(b)-len(rest)) > first.N {
		return fault(api.ErrForm)
	}
	var items []api.Item
	for i := range nums {
		at := first.N + places[i]
		if at > int64(len(b)) {
			return fault(api.ErrShort)
		}
		o, e := parse.New(b[at:], depth).Value()
		if e != api.OK {
			return fault(e)
		}
		items = append(items, item(int(nums[i]), o))
	}
	return cameItems(len(b), items...)
}

// writable tells if rows may be written.
func writable(rows ...table.Row) bool {
	for i, r := range rows {
		if r.Num < 0 || r.Num > greatest || i > 0 && rows[i-1].Num >= r.Num {
			return false
		}
		least, mostAt, mostGen := 0, 1<<31-1, 65535
		switch r.Kind {
		case 2:
			least, mostAt, mostGen = 1, greatest, 1<<31-1
		case 0, 1:
		default:
			return false
		}
		if r.At < least || r.At > mostAt || r.Gen < 0 || r.Gen > mostGen {
			return false
		}
	}
	return true
}

// stands is a stream with the entries of several lists, of each key the last one, by rising keys.
func stands(data []byte, lists ...[]api.Entry) api.Obj {
	o := stream(string(data))
	for _, e := range slices.Concat(lists...) {
		o = with(o, e.Key, e.Val)
	}
	slices.SortFunc(o.D, func(a, b api.Entry) int { return strings.Compare(a.Key, b.Key) })
	return o
}

// slowPutRows is what PutRows has to answer.
func slowPutRows(trailer api.Obj, l []chain.Link, rows ...table.Row) answer {
	if trailer.Kind != api.Dict || !cos.May(trailer) || !writable(rows...) {
		return refused(api.ErrArg)
	}
	var digits strings.Builder
	size, index := 1, arr()
	for i, r := range rows {
		fmt.Fprintf(&digits, "%02x%08x%08x", r.Kind, r.At, r.Gen)
		size = r.Num + 1
		if i == 0 || rows[i-1].Num+1 != r.Num {
			n := 1
			for i+n < len(rows) && rows[i+n].Num == r.Num+n {
				n++
			}
			index.L = append(index.L, whole(r.Num), whole(n))
		}
	}
	b, _ := hex.DecodeString(digits.String())
	o, e := chain.Encode(b, l...)
	if e != api.OK {
		return refused(e)
	}
	kept := with(with(trailer, "Filter", api.Obj{}), "DecodeParms", api.Obj{})
	return made(stands(o.B, kept.D, o.D, []api.Entry{entry("Index", index), entry("Size", whole(size)), entry("Type", name("XRef")), entry("W", ints(1, 4, 4))}))
}

// slowPutObjects is what PutObjects has to answer.
func slowPutObjects(l []chain.Link, items ...api.Item) answer {
	if len(items) > 65535 {
		return refused(api.ErrArg)
	}
	var heads, values strings.Builder
	for _, i := range items {
		b, e := print.Value(i.Obj)
		if e != api.OK || i.Obj.Kind == api.Stream || i.Num < 1 || i.Num > greatest {
			return refused(api.ErrArg)
		}
		fmt.Fprintf(&heads, "%d %d ", i.Num, values.Len())
		fmt.Fprintf(&values, "%s\n", b)
	}
	o, e := chain.Encode([]byte(heads.String()+values.String()), l...)
	if e != api.OK {
		return refused(e)
	}
	return made(stands(o.B, o.D, []api.Entry{entry("First", whole(heads.Len())), entry("N", whole(len(items))), entry("Type", name("ObjStm"))}))
}

// chance makes things by chance.
type chance struct{ *rand.Rand }

func newChance(seed int64) chance { return chance{rand.New(rand.NewSource(seed))} }

// of is one of some.
func of[T any](c chance, l ...T) T { return l[c.Intn(len(l))] }

// rows are some that may be written.
func (c chance) rows(most int) []table.Row {
	var l []table.Row
	n := c.Intn(3)
	for range c.Intn(most + 1) {
		gen := of(c, 0, 1, c.Intn(65536), 65535)
		l = append(l, of(c, free(n, of(c, 0, c.Intn(1<<31), 1<<31-1), gen), placed(n, of(c, 0, 17, c.Intn(1<<31), 1<<31-1), gen), packed(n, of(c, 1, 1+c.Intn(greatest), greatest), of(c, 0, c.Intn(9), c.Intn(1<<31), 1<<31-1))))
		n += of(c, 1, 1, 1, 2, 1+c.Intn(1000))
	}
	if len(l) > 0 && c.Intn(4) == 0 {
		// Up to the greatest number.
		up := greatest - l[len(l)-1].Num
		for i := range l {
			l[i].Num += up
		}
	}
	return l
}

// object is one that may be, and is no Stream, of at most so many arrays and dictionaries in one another.
func (c chance) object(deep int) api.Obj {
	switch kind := c.Intn(10); kind {
	case api.Bool:
		return num(api.Bool, int64(c.Intn(2)))
	case api.Int:
		return whole(of(c, 0, 1, 7, -c.Intn(1000), c.Intn(1<<31), -(1<<31 - 1)))
	case api.Real:
		return num(api.Real, int64(of(c, 0, 1, -1, 150000, c.Intn(1<<40), -c.Intn(1<<40))))
	case api.Str, api.Name:
		return text(kind, of(c, "", "a", "R", "obj", "1 0 R", "x y", ")", "(\\", "endobj"))
	case api.Ref:
		return num(api.Ref, int64(1+c.Intn(greatest)))
	case api.Arr:
		o := arr()
		for range c.Intn(4) * min(deep, 1) {
			o.L = append(o.L, c.object(deep-1))
		}
		if deep > 0 {
			return o
		}
	case api.Dict:
		if deep > 0 {
			return dict(c.entries(deep - 1)...)
		}
	}
	return api.Obj{}
}

// entries are some by rising keys.
func (c chance) entries(deep int) []api.Entry {
	var l []api.Entry
	for _, key := range []string{"", "A", "DecodeParm", "Index", "N", "Prev", "Root", "Size", "Type", "W", "WW"} {
		if o := c.object(deep); o.Kind != api.Null && c.Intn(3) == 0 {
			l = append(l, entry(key, o))
		}
	}
	return l
}

// items are some that may stand in a stream.
func (c chance) items(most int) []api.Item {
	var l []api.Item
	for range c.Intn(most + 1) {
		l = append(l, item(of(c, 1, 2, 7, 1+c.Intn(greatest), greatest), c.object(4)))
	}
	return l
}

// links are some that any data go through.
func (c chance) links(most int) []chain.Link {
	var l []chain.Link
	for range c.Intn(most + 1) {
		l = append(l, of(c, link(of(c, five()...)), shaped(of(c, five()...), of(c, 1, 2, 10, 12, 15), 1, 1)))
	}
	return l
}

// spoilt is o with something changed.
func (c chance) spoilt(o api.Obj) api.Obj {
	o = cos.Copy(o)
	if i := c.Intn(len(o.B) + 1); i < len(o.B) && c.Intn(2) == 0 {
		switch c.Intn(3) {
		case 0:
			o.B[i] = of(c, byte(0), 1, 2, 3, ' ', '0', '9', '[', '/', '%', '(', byte(c.Intn(256)))
		case 1:
			o.B = o.B[:i]
		default:
			o.B = slices.Insert(o.B, i, of(c, byte(0), ' ', '7', byte(c.Intn(256))))
		}
		return o
	}
	if len(o.D) == 0 || c.Intn(20) == 0 {
		return of(c, others()...)
	}
	e := &o.D[c.Intn(len(o.D))]
	switch c.Intn(6) {
	case 0:
		e.Val = of(c, others()...)
	case 1:
		e.Val = whole(of(c, -1, 0, 1, 2, 3, 4, 5, 65535, 65536, greatest, greatest+1, greatest+2, 1<<31, 1<<62, -1<<63, 1<<63-1))
	case 2:
		e.Key = of(c, "Type", "W", "Size", "Index", "N", "First", "Filter", "DecodeParms", "A")
	case 3:
		o.D = slices.Insert(o.D, c.Intn(len(o.D)+1), entry(of(c, "Type", "W", "Size", "Index", "N", "First", "Filter", "DecodeParms"), of(c, append(others(), whole(2), ints(1, 0, 2), ints(0, 2), name("ObjStm"), name("FlateDecode"))...)))
	case 4:
		if n := len(e.Val.L); n > 0 {
			e.Val.L[c.Intn(n)] = of(c, append(others(), whole(c.Intn(6)-1), whole(greatest), whole(greatest+1), whole(1<<63-1))...)
		}
	default:
		e.Val.L = append(e.Val.L, whole(c.Intn(5)))
		e.Val.L = e.Val.L[c.Intn(len(e.Val.L)):]
	}
	return o
}
