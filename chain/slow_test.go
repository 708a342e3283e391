package chain_test

import (
	"fmt"
	"math/rand"
	"slices"
	"strings"

	"pressmark/api"
	"pressmark/ascii"
	"pressmark/chain"
	"pressmark/deflate"
	"pressmark/inflate"
	"pressmark/lzw"
	"pressmark/predict"
	"pressmark/runs"
)

// Objects as they stand, without the makers.

func num(kind int, n int64) api.Obj { return api.Obj{Kind: kind, N: n} }

func whole(n int64) api.Obj { return num(api.Int, n) }

func text(kind int, s string) api.Obj { return api.Obj{Kind: kind, B: []byte(s)} }

func name(s string) api.Obj { return text(api.Name, s) }

func arr(l ...api.Obj) api.Obj { return api.Obj{Kind: api.Arr, L: l} }

func dict(l ...api.Entry) api.Obj { return api.Obj{Kind: api.Dict, D: l} }

func entry(key string, o api.Obj) api.Entry { return api.Entry{Key: key, Val: o} }

func stream(data string, l ...api.Entry) api.Obj {
	return api.Obj{Kind: api.Stream, B: []byte(data), D: l}
}

// names is an array of names.
func names(l ...string) api.Obj {
	o := arr()
	for _, s := range l {
		o.L = append(o.L, name(s))
	}
	return o
}

// ints is a dictionary of whole numbers, a key and its number by turns.
func ints(l ...any) api.Obj {
	o := dict()
	for i := 0; i < len(l); i += 2 {
		o.D = append(o.D, entry(l[i].(string), whole(int64(l[i+1].(int)))))
	}
	return o
}

// filtered is a stream with a filter.
func filtered(data string, filter api.Obj) api.Obj { return stream(data, entry("Filter", filter)) }

// parted is a stream with a filter, and what is told of it.
func parted(data string, filter, parms api.Obj) api.Obj {
	return stream(data, entry("DecodeParms", parms), entry("Filter", filter))
}

// nested is o within so many arrays and dictionaries, by turns.
func nested(o api.Obj, n int) api.Obj {
	for i := range n {
		if i%2 == 0 {
			o = arr(o)
		} else {
			o = dict(entry("K", o))
		}
	}
	return o
}

// none are kinds that are as Null, and Null.
func none() []int { return []int{api.Null, -1, 10, 11, 99, -1 << 63, 1<<63 - 1} }

// sample is an object of a kind.
func sample(kind int) api.Obj {
	switch kind {
	case api.Bool, api.Int, api.Real, api.Ref:
		return num(kind, 1)
	case api.Str:
		return text(kind, "FlateDecode")
	case api.Name:
		return name("LZWDecode")
	case api.Arr:
		return names("LZWDecode", "FlateDecode")
	case api.Dict:
		return ints("Columns", 7)
	case api.Stream:
		return stream("41>", ints("Columns", 7).D...)
	}
	// Of these kinds no field counts.
	return api.Obj{Kind: kind, N: 1, B: []byte("FlateDecode"), L: names("FlateDecode").L, D: ints("Predictor", 3).D}
}

// others are samples of each kind that there is but Null and some.
func others(but ...int) []api.Obj {
	var l []api.Obj
	for kind := api.Bool; kind <= api.Ref; kind++ {
		if !slices.Contains(but, kind) {
			l = append(l, sample(kind))
		}
	}
	return l
}

// Links.

// five are the names of all filters that can be undone.
func five() []string {
	return []string{"FlateDecode", "LZWDecode", "ASCIIHexDecode", "ASCII85Decode", "RunLengthDecode"}
}

// strange are names of others.
func strange() []string {
	return []string{"DCTDecode", "JPXDecode", "CCITTFaxDecode", "JBIG2Decode", "Crypt", "", "Fl", "LZW", "AHx", "A85", "RL", "Flate", "FlateDecod", "FlateDecodes", "flatedecode", "FlateDecode\x00", " LZWDecode", "ASCIIhexDecode", "ASCIIHEXDecode", "ASCII85", "Ascii85Decode", "RunlengthDecode", "FlateEncode", "FlateDecodeLZWDecode"}
}

// plain is a shape of which nothing was told.
var plain = predict.Shape{Predictor: 1, Colors: 1, Columns: 1}

// link is one of a name, of which nothing was told.
func link(s string) chain.Link { return chain.Link{Shape: plain, Name: s, Early: 1} }

// shaped is a link with a shape.
func shaped(s string, predictor, colors, columns int) chain.Link {
	return chain.Link{Shape: predict.Shape{Predictor: predictor, Colors: colors, Columns: columns}, Name: s, Early: 1}
}

// linked are links of names.
func linked(l ...string) []chain.Link {
	var links []chain.Link
	for _, s := range l {
		links = append(links, link(s))
	}
	return links
}

// repeated is what f makes of each number from 0 on.
func repeated[T any](n int, f func(i int) T) []T {
	l := make([]T, n)
	for i := range l {
		l[i] = f(i)
	}
	return l
}

// many are so many names of filters, all five by turns.
func many(n int) []string { return repeated(n, func(i int) string { return five()[i%5] }) }

// The slow chain, by the chapter's words.

// first is the value of a key by its first entry, if it is not as Null.
func first(l []api.Entry, key string) (api.Obj, bool) {
	i := slices.IndexFunc(l, func(e api.Entry) bool { return e.Key == key })
	if i < 0 || !something(l[i].Val) {
		return api.Obj{}, false
	}
	return l[i].Val, true
}

// something tells if there is such a kind, but Null.
func something(o api.Obj) bool { return api.Bool <= o.Kind && o.Kind <= api.Ref }

// slowMay tells if a shape may be.
func slowMay(s predict.Shape) bool {
	return slices.Contains([]int{1, 2, 10, 11, 12, 13, 14, 15}, s.Predictor) && slices.Contains([]int{1, 2, 3, 4}, s.Colors) && s.Columns > 0 && s.Columns < 4097
}

// slowLinks is what Links has to answer.
func slowLinks(o api.Obj) ([]chain.Link, api.Errno) {
	if o.Kind != api.Stream {
		return nil, api.ErrArg
	}
	filter, there := first(o.D, "Filter")
	if !there {
		return nil, api.OK
	}
	parms, told := first(o.D, "DecodeParms")
	switch {
	case filter.Kind == api.Name && (!told || parms.Kind == api.Dict):
		// As an array of one.
		filter, parms = arr(filter), arr(parms)
	case filter.Kind == api.Arr && !told:
		parms = arr(make([]api.Obj, len(filter.L))...)
	case filter.Kind == api.Arr && parms.Kind == api.Arr:
	default:
		return nil, api.ErrForm
	}
	if len(filter.L) > 8 || len(filter.L) != len(parms.L) {
		return nil, api.ErrForm
	}
	var links []chain.Link
	for i, o := range filter.L {
		l, ok := slowLink(parms.L[i])
		if !ok || o.Kind != api.Name {
			return nil, api.ErrForm
		}
		l.Name = string(o.B)
		links = append(links, l)
	}
	return links, api.OK
}

// slowLink is a link by what is told of it.
func slowLink(o api.Obj) (chain.Link, bool) {
	if !something(o) {
		return link(""), true
	}
	if o.Kind != api.Dict {
		return chain.Link{}, false
	}
	n := map[string]int64{"Predictor": 1, "Colors": 1, "Columns": 1, "EarlyChange": 1}
	for key := range n {
		if v, there := first(o.D, key); there {
			if v.Kind != api.Int {
				return chain.Link{}, false
			}
			n[key] = v.N
		}
	}
	if v, there := first(o.D, "BitsPerComponent"); there && n["Predictor"] != 1 && (v.Kind != api.Int || v.N != 8) {
		return chain.Link{}, false
	}
	l := shaped("", int(n["Predictor"]), int(n["Colors"]), int(n["Columns"]))
	return l, slowMay(l.Shape) && n["EarlyChange"] == 1
}

// filter is a filter's two ways.
type filter struct {
	undo func([]byte, int) ([]byte, api.Errno)
	do   func([]byte) []byte
}

// filters are all that can be undone, by their names.
func filters() map[string]filter {
	unzip := func(b []byte, most int) ([]byte, api.Errno) {
		came, _, e := inflate.Zlib(b, most)
		return came, e
	}
	return map[string]filter{
		"FlateDecode":     {unzip, deflate.Zlib},
		"LZWDecode":       {lzw.Decode, lzw.Encode},
		"ASCIIHexDecode":  {ascii.Unhex, ascii.Hex},
		"ASCII85Decode":   {ascii.Unbase85, ascii.Base85},
		"RunLengthDecode": {runs.Decode, runs.Encode},
	}
}

// differs tells if a link's Shape counts.
func differs(l chain.Link) bool { return l.Name == "FlateDecode" || l.Name == "LZWDecode" }

// slowDecode is what Decode has to answer.
func slowDecode(o api.Obj, most int) (string, api.Errno) {
	links, e := slowLinks(o)
	if e != api.OK {
		return "", e
	}
	for _, l := range links {
		if !slices.Contains(five(), l.Name) {
			return "", api.ErrFilter
		}
	}
	return slowUndo(string(o.B), most, links...)
}

// slowUndo is data with links undone, one behind the other.
func slowUndo(data string, most int, links ...chain.Link) (string, api.Errno) {
	if len(links) == 0 {
		return data, api.OK
	}
	b, e := filters()[links[0].Name].undo([]byte(data), most)
	if e == api.OK && differs(links[0]) {
		b, e = predict.Decode(links[0].Shape, b)
	}
	if e != api.OK {
		return "", e
	}
	return slowUndo(string(b), most, links[1:]...)
}

// slowDo is data with links done, the last one first.
func slowDo(data string, links ...chain.Link) (string, api.Errno) {
	if len(links) == 0 {
		return data, api.OK
	}
	last := links[len(links)-1]
	b := []byte(data)
	if differs(last) {
		var e api.Errno
		if b, e = predict.Encode(last.Shape, b); e != api.OK {
			return "", e
		}
	}
	return slowDo(string(filters()[last.Name].do(b)), links[:len(links)-1]...)
}

// filled are links without Shapes of noughts.
func filled(links ...chain.Link) []chain.Link {
	links = slices.Clone(links)
	for i, l := range links {
		if l.Predictor == 0 && l.Colors == 0 && l.Columns == 0 {
			links[i].Shape = plain
		}
	}
	return links
}

// slowEncode is what Encode has to answer.
func slowEncode(data string, links ...chain.Link) (api.Obj, api.Errno) {
	links = filled(links...)
	for _, l := range links {
		if !slices.Contains(five(), l.Name) || !slowMay(l.Shape) {
			return api.Obj{}, api.ErrArg
		}
	}
	if len(links) > 8 {
		return api.Obj{}, api.ErrLong
	}
	data, e := slowDo(data, links...)
	if e != api.OK {
		return api.Obj{}, e
	}
	filter, parms, tells := arr(), arr(), false
	for _, l := range links {
		filter.L = append(filter.L, name(l.Name))
		told := api.Obj{}
		if l.Predictor != 1 {
			told, tells = ints("BitsPerComponent", 8, "Colors", l.Colors, "Columns", l.Columns, "Predictor", l.Predictor), true
		}
		parms.L = append(parms.L, told)
	}
	switch {
	case len(links) == 0:
		return stream(data), api.OK
	case len(links) == 1:
		filter, parms = filter.L[0], parms.L[0]
	}
	if tells {
		return parted(data, filter, parms), api.OK
	}
	return filtered(data, filter), api.OK
}

// slowHas is what Has has to answer.
func slowHas(o api.Obj, names ...string) bool {
	links, _ := slowLinks(o)
	for _, l := range links {
		for _, s := range names {
			if l.Name == s {
				return true
			}
		}
	}
	return false
}

// told is all of o.
func told(o api.Obj) string {
	var s strings.Builder
	fmt.Fprintf(&s, "%d %d %q", o.Kind, o.N, o.B)
	for _, part := range o.L {
		s.WriteString("[" + told(part) + "]")
	}
	for _, e := range o.D {
		fmt.Fprintf(&s, "{%q %s}", e.Key, told(e.Val))
	}
	return s.String()
}

// short is a text of which no more is shown than tells where it differs.
func short(s string) string {
	if len(s) > 400 {
		return fmt.Sprintf("%d bytes, %s ..", len(s), s[:400])
	}
	return s
}

// chance makes streams and links.
type chance struct{ *rand.Rand }

func newChance(seed int64) chance { return chance{rand.New(rand.NewSource(seed))} }

// one is one of some.
func one[T any](c chance, l ...T) T { return l[c.Intn(len(l))] }

// data are fewer than n bytes, often many alike.
func (c chance) data(n int) string {
	b := make([]byte, c.Intn(n))
	most := one(c, 2, 4, 256)
	for i := range b {
		b[i] = byte(c.Intn(most))
		if i > 0 && c.Intn(3) > 0 {
			b[i] = b[i-1]
		}
	}
	return string(b)
}

// shape is one that may be, often of Predictor 1.
func (c chance) shape() predict.Shape {
	return predict.Shape{Predictor: one(c, 1, 1, 1, 1, 2, 10, 11, 12, 13, 14, 15), Colors: 1 + c.Intn(4), Columns: one(c, 1, 1, 2, 3, 4096)}
}

// links are fewer than n, mostly such as may be.
func (c chance) links(n int) []chain.Link {
	return repeated(c.Intn(n), func(int) chain.Link {
		l := chain.Link{Shape: c.shape(), Name: one(c, five()...), Early: c.Intn(3) - 1}
		switch c.Intn(60) {
		case 0:
			l.Name = one(c, strange()...)
		case 1:
			l.Shape.Predictor = one(c, 0, 3, 9, 16, -1)
		case 2:
			l.Shape.Columns = one(c, 0, -1, 4097)
		case 3:
			l.Shape.Colors = one(c, 0, -1, 5)
		case 4, 5, 6:
			l.Shape = predict.Shape{}
		}
		return l
	})
}

// object is of any kind, at most so deep.
func (c chance) object(deep int) api.Obj {
	switch kind := c.Intn(12) - 1; {
	case kind == api.Arr && deep > 0:
		return arr(repeated(c.Intn(4), func(int) api.Obj { return c.object(deep - 1) })...)
	case kind == api.Dict && deep > 0:
		return c.parms()
	default:
		return sample(kind)
	}
}

// parms is what may be told of a link, mostly such as may be.
func (c chance) parms() api.Obj {
	s := c.shape()
	l := ints("BitsPerComponent", one(c, 8, 8, 8, 8, 1), "Colors", s.Colors, "Columns", s.Columns, "EarlyChange", one(c, 1, 1, 1, 1, 1, 0), "Predictor", s.Predictor).D
	l = slices.DeleteFunc(l, func(api.Entry) bool { return c.Intn(3) == 0 })
	if len(l) > 0 && c.Intn(8) == 0 {
		l[c.Intn(len(l))].Val = one(c, whole(0), whole(2), whole(3), whole(4), whole(5), whole(-1), whole(1<<32+1), num(api.Real, 1), c.object(0))
	}
	if len(l) > 0 && c.Intn(8) == 0 {
		l = append(l, entry(l[0].Key, c.object(0)))
	}
	return dict(l...)
}

// spoilt is o with one thing of it otherwise, its data or what it says of its filters: then it may be undone or not.
func (c chance) spoilt(o api.Obj) api.Obj {
	switch c.Intn(6) {
	case 0:
		o.B = []byte(c.data(40))
	case 1:
		o.D = append([]api.Entry{entry("DecodeParms", c.object(2))}, o.D...)
	case 2:
		o.D = append([]api.Entry{entry("Filter", c.object(2))}, o.D...)
	case 3:
		if len(o.B) > 0 {
			o.B[c.Intn(len(o.B))] = byte(c.Intn(256))
		}
	case 4:
		o.B = o.B[:c.Intn(len(o.B)+1)]
	case 5:
		n := c.Intn(4)
		some := names(repeated(n, func(int) string { return one(c, append(five(), "X")...) })...)
		o.D = []api.Entry{entry("DecodeParms", arr(repeated(n, func(int) api.Obj { return one(c, api.Obj{}, c.parms()) })...)), entry("Filter", some)}
	}
	return o
}
