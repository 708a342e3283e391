package chain_test

import (
	"fmt"
	"slices"
	"strings"
	"testing"

	"pressmark/api"
	"pressmark/chain"
	"pressmark/predict"
)

// P14.2

// enough is a bound that is none.
const enough = 1 << 40

func TestExample(t *testing.T) {
	decodes(t, "the example", filtered("41>", name("ASCIIHexDecode")), 9, "A", api.OK)
}

// written is data written by hand for a filter: what comes of it, or its fault.
type written struct {
	name, data, came string
	fault            api.Errno
}

func byHand() []written {
	return []written{
		{"FlateDecode", "\x78\x01\x01\x01\x00\xfe\xffA\x00\x42\x00\x42", "A", api.OK},
		{"FlateDecode", "\x78\x01\x01\x00\x00\xff\xff\x00\x00\x00\x01", "", api.OK},
		{"FlateDecode", "\x78\x01\x01\x01\x00\xfe\xffA\x00\x42\x00\x42 and what stands behind", "A", api.OK},
		{"FlateDecode", "", "", api.ErrShort},
		{"FlateDecode", "\x78", "", api.ErrShort},
		{"FlateDecode", "\x78\x01\x01\x01\x00\xfe\xffA\x00\x42\x00", "", api.ErrShort},
		{"FlateDecode", "\x78\x02\x01\x01\x00\xfe\xffA\x00\x42\x00\x42", "", api.ErrForm},
		{"FlateDecode", "\x78\x01\x07", "", api.ErrForm},
		{"FlateDecode", "\x78\x01\x01\x01\x00\xfe\xffA\x00\x42\x00\x43", "", api.ErrSum},
		{"LZWDecode", "\x80\x0b\x60\x50\x22\x0c\x0c\x85\x01", "-----A---B", api.OK},
		{"LZWDecode", "\x80\x40\x40", "", api.OK},
		{"LZWDecode", "\x80\x0b\x60\x50\x22\x0c\x0c\x85\x01\xff\xff\xff", "-----A---B", api.OK},
		{"LZWDecode", "", "", api.ErrShort},
		{"LZWDecode", "\x80\x0b\x60\x50\x22\x0c\x0c\x84", "", api.ErrShort},
		{"LZWDecode", "\x81\x00", "", api.ErrForm},
		{"ASCIIHexDecode", "4 1 7>", "Ap", api.OK},
		{"ASCIIHexDecode", ">", "", api.OK},
		{"ASCIIHexDecode", "41>x", "A", api.OK},
		{"ASCIIHexDecode", "41", "", api.ErrShort},
		{"ASCIIHexDecode", "4x>", "", api.ErrForm},
		{"ASCII85Decode", "z!<~>", "\x00\x00\x00\x00\x01", api.OK},
		{"ASCII85Decode", "~>", "", api.OK},
		{"ASCII85Decode", "5l~> x", "A", api.OK},
		{"ASCII85Decode", "5l", "", api.ErrShort},
		{"ASCII85Decode", "5v~>", "", api.ErrForm},
		{"ASCII85Decode", "5~>", "", api.ErrForm},
		{"RunLengthDecode", "\x00a\xfdb\x00c\x80", "abbbbc", api.OK},
		{"RunLengthDecode", "\x80", "", api.OK},
		{"RunLengthDecode", "\x80x", "", api.OK},
		{"RunLengthDecode", "", "", api.ErrShort},
		{"RunLengthDecode", "\x02ab", "", api.ErrShort},
	}
}

func TestOneFilter(t *testing.T) {
	for _, w := range byHand() {
		for _, most := range []int{len(w.came), len(w.came) + 1, 1000, api.MaxOutput, 1<<63 - 1} {
			if w.fault != api.OK {
				most = max(most, 1000)
			}
			for _, filter := range []api.Obj{name(w.name), names(w.name)} {
				decodes(t, w.name, filtered(w.data, filter), most, w.came, w.fault)
			}
			decodes(t, w.name+", with a Dict", parted(w.data, name(w.name), ints("BitsPerComponent", 8, "Colors", 4, "Columns", 4096, "EarlyChange", 1, "Predictor", 1)), most, w.came, w.fault)
			decodes(t, w.name+", with a Null", parted(w.data, names(w.name), arr(api.Obj{})), most, w.came, w.fault)
		}
		if w.fault == api.OK && len(w.came) > 0 {
			for _, most := range []int{len(w.came) - 1, 0, -1, -1 << 63} {
				decodes(t, w.name+", too much", filtered(w.data, name(w.name)), most, "", api.ErrLimit)
			}
		}
		if w.fault == api.OK && len(w.came) == 0 {
			for _, most := range []int{0, -1, -1 << 63} {
				decodes(t, w.name+", nothing", filtered(w.data, name(w.name)), most, "", api.OK)
			}
		}
	}
}

func TestNotUndone(t *testing.T) {
	for _, o := range []api.Obj{stream("41>"), filtered("41>", names()), filtered("41>", sample(99)), stream("41>", entry("DecodeParms", whole(1)), entry("K", names("ASCIIHexDecode"))), parted("41>", arr(), arr())} {
		// Without a link there is no bound.
		for _, most := range []int{-1 << 63, -1, 0, 1, 2, 3, 4, 1000} {
			decodes(t, "no filter", o, most, "41>", api.OK)
		}
	}
	decodes(t, "no filter, no data", stream(""), -1, "", api.OK)
	long := newChance(5).data(1 << 20)
	decodes(t, "no filter, long", stream(long), 0, long, api.OK)
}

func TestFaultsOfLinks(t *testing.T) {
	for _, o := range others(api.Stream) {
		decodes(t, "no stream", o, 9, "", api.ErrArg)
	}
	for _, kind := range none() {
		decodes(t, "no stream", sample(kind), 9, "", api.ErrArg)
	}
	for _, o := range []api.Obj{
		filtered("41>", whole(1)),
		filtered("41>", arr(name("ASCIIHexDecode"), whole(1))),
		filtered("41>", names(many(9)...)),
		parted("41>", name("ASCIIHexDecode"), arr()),
		parted("41>", name("ASCIIHexDecode"), ints("Predictor", 3)),
		parted("41>", names("ASCIIHexDecode"), arr(ints("EarlyChange", 0))),
		parted("41>", names("ASCIIHexDecode"), dict()),
		// Ahead of a strange name, of bad data and of a bound.
		parted("41>", name("DCTDecode"), ints("Predictor", 3)),
		filtered("41>", arr(name("DCTDecode"), whole(1))),
		filtered("x", arr(name("ASCIIHexDecode"), whole(1))),
		filtered("41>", names(append(many(8), "DCTDecode")...)),
	} {
		decodes(t, "Links' fault", o, 9, "", api.ErrForm)
		decodes(t, "Links' fault", o, 0, "", api.ErrForm)
	}
}

func TestStrangeNames(t *testing.T) {
	for _, s := range strange() {
		for _, data := range []string{"", "41>", "x"} {
			for _, most := range []int{-1, 0, 9} {
				decodes(t, s+" alone", filtered(data, name(s)), most, "", api.ErrFilter)
				decodes(t, s+" alone", filtered(data, names(s)), most, "", api.ErrFilter)
				decodes(t, s+" with a Dict", parted(data, name(s), ints("Columns", 2, "Predictor", 12)), most, "", api.ErrFilter)
				for _, other := range five() {
					decodes(t, s+" ahead", filtered(data, names(s, other)), most, "", api.ErrFilter)
					decodes(t, s+" behind", filtered(data, names(other, s)), most, "", api.ErrFilter)
				}
			}
		}
		for n := range 8 {
			l := many(8)
			l[n] = s
			decodes(t, fmt.Sprint(s, " at ", n), filtered("x", names(l...)), 9, "", api.ErrFilter)
		}
		decodes(t, s+" many times", filtered("x", names(slices.Repeat([]string{s}, 8)...)), 9, "", api.ErrFilter)
	}
}

// encoded is data with links done, a stream of them.
func encoded(t *testing.T, data string, l ...chain.Link) api.Obj {
	t.Helper()
	o, e := slowEncode(data, l...)
	if e != api.OK {
		t.Fatalf("%v: %v", l, e)
	}
	return o
}

func TestSeveral(t *testing.T) {
	decodes(t, "by hand", filtered("35 6c 7e 3e>", names("ASCIIHexDecode", "ASCII85Decode")), 4, "A", api.OK)
	decodes(t, "by hand", filtered("\x05353~> \x80", names("RunLengthDecode", "ASCIIHexDecode")), 9, "", api.ErrForm)
	decodes(t, "by hand", filtered("\x023> \x80", names("RunLengthDecode", "ASCIIHexDecode")), 3, "0", api.OK)
	c := newChance(142)
	for n := range 9 {
		for range 60 {
			l := repeated(n, func(int) chain.Link { return link(one(c, five()...)) })
			data := c.data(200)
			decodes(t, fmt.Sprint(n, " links"), encoded(t, data, l...), enough, data, api.OK)
		}
		data := "a chain of all, aaaaaaaaaaaaaaaaaaaaaaaa"
		decodes(t, fmt.Sprint(n, " links"), encoded(t, data, linked(many(n)...)...), enough, data, api.OK)
	}
	for _, a := range five() {
		for _, b := range five() {
			data := "of " + a + " and " + b
			o := encoded(t, data, link(a), link(b))
			decodes(t, data, o, enough, data, api.OK)
			if a != b {
				// In their order alone: the other way round it is not the data.
				o = filtered(string(o.B), names(b, a))
				want, fault := slowDecode(o, enough)
				decodes(t, data+", in another order", o, enough, want, fault)
				if want == data {
					t.Errorf("%s: the order is not told", data)
				}
			}
		}
	}
}

// P14.2 with a Shape.

func TestShapes(t *testing.T) {
	data := "abcdefghijklabcdefghijkl\x00\xff\x80\x7f____aaaaaaaa"
	for _, s := range []string{"FlateDecode", "LZWDecode"} {
		for _, predictor := range []int{1, 2, 10, 11, 12, 13, 14, 15} {
			for _, colors := range []int{1, 2, 4} {
				for _, columns := range []int{1, 2, 5} {
					l := shaped(s, predictor, colors, columns)
					o := encoded(t, data[:40], l)
					decodes(t, fmt.Sprint(l), o, enough, data[:40], api.OK)
					// What is told alone makes the difference.
					raw, e := predict.Encode(l.Shape, []byte(data[:40]))
					decodes(t, fmt.Sprint(l, ", not told"), filtered(string(o.B), name(s)), enough, string(raw), e)
					decodes(t, fmt.Sprint(l, ", in an array"), filtered(string(o.B), names(s)), enough, string(raw), e)
				}
			}
		}
	}
}

func TestShapesByHand(t *testing.T) {
	for _, s := range []string{"FlateDecode", "LZWDecode"} {
		do := filters()[s].do
		rows := string(do([]byte("\x02\x01\x02\x02\x01\x01")))
		decodes(t, "tags 2", parted(rows, name(s), ints("Columns", 2, "Predictor", 12)), 6, "\x01\x02\x02\x03", api.OK)
		decodes(t, "any tag", parted(rows, name(s), ints("Columns", 2, "Predictor", 10)), 6, "\x01\x02\x02\x03", api.OK)
		decodes(t, "no tags", parted(rows, name(s), ints("Columns", 2, "Predictor", 2)), 6, "\x02\x03\x02\x04\x01\x02", api.OK)
		decodes(t, "no tags, 2 colours", parted(rows, name(s), ints("Colors", 2, "Columns", 3, "Predictor", 2)), 6, "\x02\x01\x04\x03\x05\x04", api.OK)
		decodes(t, "as it is", parted(rows, name(s), ints("Columns", 5, "Predictor", 1)), 6, "\x02\x01\x02\x02\x01\x01", api.OK)
		decodes(t, "no Predictor", parted(rows, name(s), ints("Colors", 4, "Columns", 5)), 6, "\x02\x01\x02\x02\x01\x01", api.OK)
		decodes(t, "no whole rows", parted(rows, name(s), ints("Columns", 3, "Predictor", 12)), 6, "", api.ErrForm)
		decodes(t, "no whole rows", parted(rows, name(s), ints("Columns", 4, "Predictor", 2)), 6, "", api.ErrForm)
		decodes(t, "rows of one byte", parted(rows, name(s), ints("Columns", 1, "Predictor", 12)), 6, "\x01\x03\x01", api.OK)
		decodes(t, "a tag above 4", parted(string(do([]byte("\x02\x01\x05\x02"))), name(s), ints("Predictor", 12)), 6, "", api.ErrForm)
		decodes(t, "no bytes", parted(string(do(nil)), name(s), ints("Columns", 9, "Predictor", 12)), 0, "", api.OK)
	}
}

func TestShapeThatDoesNotCount(t *testing.T) {
	data := "abcdefg"
	for _, s := range five()[2:] {
		b := string(filters()[s].do([]byte(data)))
		for _, predictor := range []int{1, 2, 10, 11, 12, 13, 14, 15} {
			for _, columns := range []int{1, 3, 4, 7, 4096} {
				parms := ints("Columns", columns, "Predictor", predictor)
				decodes(t, s, parted(b, name(s), parms), len(data), data, api.OK)
				decodes(t, s, parted(b, names(s), arr(parms)), len(data), data, api.OK)
				decodes(t, s+", a bound", parted(b, name(s), parms), len(data)-1, "", api.ErrLimit)
			}
		}
		decodes(t, s+", one that may not be", parted(b, name(s), ints("Predictor", 3)), len(data), "", api.ErrForm)
	}
}

// Bounds.

// sizes are how many bytes each link makes, ahead of its Shape.
func sizes(t *testing.T, o api.Obj) []int {
	t.Helper()
	l, e := slowLinks(o)
	if e != api.OK {
		t.Fatal(e)
	}
	var all []int
	b := o.B
	for _, l := range l {
		came, e := filters()[l.Name].undo(b, enough)
		if e != api.OK {
			t.Fatal(l.Name, e)
		}
		all = append(all, len(came))
		if b = came; differs(l) {
			if b, e = predict.Decode(l.Shape, came); e != api.OK {
				t.Fatal(l, e)
			}
		}
	}
	return all
}

func TestBounds(t *testing.T) {
	same := strings.Repeat("a", 60)
	for _, c := range []struct {
		what  string
		data  string
		links []chain.Link
		most  int // the link whose bytes are the most
	}{
		{"one", same, linked("FlateDecode"), 0},
		{"one, LZW", same, linked("LZWDecode"), 0},
		{"one, Hex", same, linked("ASCIIHexDecode"), 0},
		{"one, 85", same, linked("ASCII85Decode"), 0},
		{"one, runs", same, linked("RunLengthDecode"), 0},
		{"ahead of its Shape", "abcdefgh", []chain.Link{shaped("FlateDecode", 12, 1, 1)}, 0},
		{"ahead of its Shape, LZW", "abcdefgh", []chain.Link{shaped("LZWDecode", 15, 2, 2)}, 0},
		{"the first of three", "abc", linked("FlateDecode", "ASCIIHexDecode", "ASCII85Decode"), 0},
		{"the middle of three", same, linked("ASCIIHexDecode", "FlateDecode", "ASCIIHexDecode"), 1},
		{"the last of three", same, linked("ASCIIHexDecode", "RunLengthDecode", "LZWDecode"), 2},
		{"the first, ahead of its Shape", "abcdefghijkl", []chain.Link{shaped("FlateDecode", 12, 1, 1), link("RunLengthDecode")}, 0},
		{"the middle, ahead of its Shape", same, []chain.Link{link("RunLengthDecode"), shaped("LZWDecode", 13, 1, 1), link("ASCIIHexDecode")}, 1},
		{"the last, ahead of its Shape", same, []chain.Link{link("ASCIIHexDecode"), shaped("FlateDecode", 14, 1, 1)}, 1},
		{"the last of eight", strings.Repeat(same, 300), linked("ASCIIHexDecode", "ASCII85Decode", "RunLengthDecode", "FlateDecode", "LZWDecode", "FlateDecode", "RunLengthDecode", "RunLengthDecode"), 7},
		{"the first of eight", "", linked("RunLengthDecode", "ASCIIHexDecode", "ASCII85Decode", "ASCIIHexDecode", "ASCIIHexDecode", "ASCIIHexDecode", "ASCIIHexDecode", "ASCIIHexDecode"), 0},
	} {
		o := encoded(t, c.data, c.links...)
		n := sizes(t, o)
		least := slices.Max(n)
		if slices.Index(n, least) != c.most {
			t.Errorf("%s: the links make %v bytes", c.what, n)
		}
		for _, most := range []int{least, least + 1, least * 2, enough, 1<<63 - 1} {
			decodes(t, c.what, o, most, c.data, api.OK)
		}
		for _, most := range []int{least - 1, least / 2, n[0] - 1, n[len(n)-1] - 1, 1, 0, -1, -least, -1 << 63} {
			decodes(t, c.what+", too much", o, most, "", api.ErrLimit)
		}
		for most := range min(least, 200) {
			decodes(t, c.what+", too much", o, most, "", api.ErrLimit)
		}
	}
}

// What the Shape leaves away does not count for the link behind, nor what the bound is of another one.

func TestBoundOfEach(t *testing.T) {
	o := encoded(t, "abcd", shaped("FlateDecode", 12, 1, 1), link("ASCIIHexDecode"))
	// abcd is 9 digits and the end, ahead of the Shape 18 bytes.
	decodes(t, "just as much", o, 18, "abcd", api.OK)
	decodes(t, "a byte less", o, 17, "", api.ErrLimit)
	decodes(t, "what is left by the Shape", o, 9, "", api.ErrLimit)
	o = encoded(t, strings.Repeat("a", 100), link("RunLengthDecode"), link("RunLengthDecode"), link("RunLengthDecode"))
	decodes(t, "each by itself", o, 100, strings.Repeat("a", 100), api.OK)
}

// Faults of data.

// wrapped are bytes behind links, so that these make just them.
func wrapped(t *testing.T, b string, l []string) string {
	t.Helper()
	b, e := slowDo(b, linked(l...)...)
	if e != api.OK {
		t.Fatal(e)
	}
	return b
}

func TestFirstFault(t *testing.T) {
	for _, w := range byHand() {
		if w.fault == api.OK {
			continue
		}
		for n := range 8 {
			ahead := many(n)
			for _, behind := range [][]string{nil, {"FlateDecode"}, {"ASCIIHexDecode"}} {
				data := wrapped(t, w.data, ahead)
				all := slices.Concat(ahead, []string{w.name}, behind)
				if len(all) <= 8 {
					decodes(t, fmt.Sprint(w.name, " bad, at ", n), filtered(data, names(all...)), enough, "", w.fault)
				}
			}
		}
	}
	// The second is bad, and the first meets its bound, or does not.
	o := filtered("34 78 3e 20 20>", names("ASCIIHexDecode", "ASCIIHexDecode"))
	decodes(t, "the bound of the first", o, 4, "", api.ErrLimit)
	decodes(t, "the form of the second", o, 5, "", api.ErrForm)
	o = filtered("34 31>", names("ASCIIHexDecode", "ASCIIHexDecode"))
	decodes(t, "the bound of the first", o, 1, "", api.ErrLimit)
	decodes(t, "the end of the second", o, 2, "", api.ErrShort)
}

func TestFirstFaultWithShapes(t *testing.T) {
	for _, s := range []string{"FlateDecode", "LZWDecode"} {
		b := string(filters()[s].do([]byte("\x09ab\x09ab")))
		rows := ints("Columns", 2, "Predictor", 12)
		decodes(t, "the form of the Shape", parted(b, names(s, "ASCIIHexDecode"), arr(rows, api.Obj{})), 9, "", api.ErrForm)
		decodes(t, "the form of the Shape, the last one's", parted(wrapped(t, b, []string{"ASCIIHexDecode"}), names("ASCIIHexDecode", s), arr(api.Obj{}, rows)), enough, "", api.ErrForm)
		decodes(t, "the bound, ahead of the Shape", parted(b, name(s), rows), 5, "", api.ErrLimit)
		decodes(t, "the Shape, at the bound", parted(b, name(s), rows), 6, "", api.ErrForm)
		// Without the Shape it is the link behind that is told.
		decodes(t, "the end of the second", parted(string(filters()[s].do([]byte("61"))), names(s, "ASCIIHexDecode"), arr(dict(), rows)), 9, "", api.ErrShort)
	}
	sum := string(filters()["FlateDecode"].do([]byte("\x09ab\x09ab")))
	sum = sum[:len(sum)-1] + "\x00"
	decodes(t, "the sum, ahead of the Shape", parted(sum, name("FlateDecode"), ints("Columns", 2, "Predictor", 12)), 9, "", api.ErrSum)
	decodes(t, "the end, ahead of the Shape", parted(sum[:len(sum)-1], name("FlateDecode"), ints("Columns", 2, "Predictor", 12)), 9, "", api.ErrShort)
}

func TestDecodeByChance(t *testing.T) {
	c := newChance(143)
	faults := map[api.Errno]int{}
	for range 30000 {
		o, e := slowEncode(c.data(80), c.links(5)...)
		if e != api.OK {
			continue
		}
		for range c.Intn(3) {
			o = c.spoilt(o)
		}
		most := one(c, 0, -1, 20, c.Intn(200), 1000)
		want, fault := slowDecode(o, most)
		faults[fault]++
		decodes(t, "by chance", o, most, want, fault)
	}
	for _, fault := range []api.Errno{api.OK, api.ErrShort, api.ErrForm, api.ErrLimit, api.ErrSum, api.ErrFilter} {
		if faults[fault] < 10 {
			t.Errorf("%v by chance %d times", fault, faults[fault])
		}
	}
}
