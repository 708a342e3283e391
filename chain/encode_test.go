package chain_test

import (
	"fmt"
	"math/rand"
	"slices"
	"strings"
	"testing"

	"pressmark/api"
	"pressmark/chain"
	"pressmark/cos"
	"pressmark/predict"
)

// P14.3

func TestEncodeNone(t *testing.T) {
	for _, data := range []string{"", "a", "41>", strings.Repeat("a", 1000)} {
		encodes(t, "no link", data, nil, stream(data), api.OK)
	}
}

func TestEncodeByHand(t *testing.T) {
	for _, c := range []struct {
		what, data string
		links      []chain.Link
		want       api.Obj
	}{
		{"Flate", "", linked("FlateDecode"), filtered("\x78\x01\x03\x00\x00\x00\x00\x01", name("FlateDecode"))},
		{"LZW", "", linked("LZWDecode"), filtered("\x80\x40\x40", name("LZWDecode"))},
		{"Hex", "A", linked("ASCIIHexDecode"), filtered("41>", name("ASCIIHexDecode"))},
		{"85", "\x00\x00\x00\x00\x01", linked("ASCII85Decode"), filtered("z!<~>", name("ASCII85Decode"))},
		{"runs", "abbbbc", linked("RunLengthDecode"), filtered("\x00a\xfdb\x00c\x80", name("RunLengthDecode"))},
		{"two", "A", linked("RunLengthDecode", "ASCIIHexDecode"), filtered("\x0241>\x80", names("RunLengthDecode", "ASCIIHexDecode"))},
		{"two, the other way", "A", linked("ASCIIHexDecode", "RunLengthDecode"), filtered("004180>", names("ASCIIHexDecode", "RunLengthDecode"))},
		{"three", "A", linked("ASCIIHexDecode", "ASCIIHexDecode", "ASCIIHexDecode"), filtered("3334333133653e>", names("ASCIIHexDecode", "ASCIIHexDecode", "ASCIIHexDecode"))},
		{"one with a Shape that does not count", "A", []chain.Link{shaped("ASCIIHexDecode", 12, 3, 7)}, parted("41>", name("ASCIIHexDecode"), ints("BitsPerComponent", 8, "Colors", 3, "Columns", 7, "Predictor", 12))},
		{"Shapes at the second", "A", []chain.Link{link("RunLengthDecode"), shaped("ASCIIHexDecode", 2, 1, 1)}, parted("\x0241>\x80", names("RunLengthDecode", "ASCIIHexDecode"), arr(api.Obj{}, ints("BitsPerComponent", 8, "Colors", 1, "Columns", 1, "Predictor", 2)))},
		{"Shapes at both", "A", []chain.Link{shaped("RunLengthDecode", 15, 4, 4096), shaped("ASCIIHexDecode", 10, 2, 3)}, parted("\x0241>\x80", names("RunLengthDecode", "ASCIIHexDecode"), arr(ints("BitsPerComponent", 8, "Colors", 4, "Columns", 4096, "Predictor", 15), ints("BitsPerComponent", 8, "Colors", 2, "Columns", 3, "Predictor", 10)))},
	} {
		encodes(t, c.what, c.data, c.links, c.want, api.OK)
	}
}

// made asks that Encode answers what the slow one does, and that it is read as it was.
func made(t *testing.T, what, data string, l ...chain.Link) api.Obj {
	t.Helper()
	want, fault := slowEncode(data, l...)
	encodes(t, what, data, l, want, fault)
	if fault != api.OK {
		return want
	}
	back(t, what, data, l...)
	return want
}

// back asks that Decode of what is made is the data, and Links of it are the links.
func back(t *testing.T, what, data string, l ...chain.Link) {
	t.Helper()
	o, e := chain.Encode([]byte(data), l...)
	if e != api.OK || !cos.May(o) {
		t.Errorf("%s: %v, or a stream that may not be", what, e)
	}
	b, e := chain.Decode(o, enough)
	if e != api.OK || string(b) != data {
		t.Errorf("%s, %v: %d bytes are read as %d, %v", what, l, len(data), len(b), e)
	}
	want := filled(l...)
	for i := range want {
		want[i].Early = 1
		if want[i].Predictor == 1 {
			// Where the bytes stand as they are, nothing is told of rows.
			want[i].Shape = plain
		}
	}
	if got, e := chain.Links(o); e != api.OK || !slices.Equal(got, want) {
		t.Errorf("%s: the links %v, %v, want %v", what, got, e, want)
	}
	for _, l := range l {
		if !chain.Has(o, l.Name) {
			t.Errorf("%s: it has no %s", what, l.Name)
		}
	}
}

func TestEncodeOne(t *testing.T) {
	for _, s := range five() {
		for _, data := range []string{"", "a", "abcdefghijkl", strings.Repeat("ab", 24), strings.Repeat("\x00", 240)} {
			want := made(t, s, data, link(s))
			holdsKeys(t, s, want, "Filter")
			for _, l := range []chain.Link{{Name: s}, {Name: s, Early: 1}, {Name: s, Shape: plain}, {Name: s, Shape: plain, Early: 7}, {Name: s, Shape: plain, Early: -1}, shaped(s, 1, 4, 9), shaped(s, 1, 1, 4096)} {
				// What is told of bytes as they are does not show, nor does Early.
				encodes(t, s, data, []chain.Link{l}, want, api.OK)
				back(t, s, data, l)
			}
			for _, predictor := range []int{2, 10, 11, 12, 13, 14, 15} {
				for _, colors := range []int{1, 2, 3, 4} {
					o := made(t, s, data, shaped(s, predictor, colors, 3))
					if o.Kind == api.Stream {
						holdsKeys(t, s, o, "DecodeParms", "Filter")
						holdsKeys(t, s, o.D[0].Val, "BitsPerComponent", "Colors", "Columns", "Predictor")
					}
				}
			}
		}
	}
}

// holdsKeys tells if o has other keys, or in another order.
func holdsKeys(t *testing.T, what string, o api.Obj, keys ...string) {
	t.Helper()
	if !slices.EqualFunc(o.D, keys, func(e api.Entry, key string) bool { return e.Key == key }) {
		t.Errorf("%s: the keys of %s, want %v", what, short(told(o)), keys)
	}
}

func TestEncodeSeveral(t *testing.T) {
	data := strings.Repeat("abcdefgh", 12)
	for n := range 9 {
		made(t, fmt.Sprint(n, " links"), data, linked(many(n)...)...)
		made(t, fmt.Sprint(n, " links without Shapes"), data, repeated(n, func(i int) chain.Link { return chain.Link{Name: many(n)[i]} })...)
		// A Shape at one, at each place; at all of them.
		for i := range n {
			for _, predictor := range []int{2, 12} {
				l := linked(many(n)...)
				l[i].Shape = predict.Shape{Predictor: predictor, Colors: 1, Columns: 1}
				o := made(t, fmt.Sprint(n, " links, a Shape at ", i), data, l...)
				holdsKeys(t, "with a Shape", o, "DecodeParms", "Filter")
				parms := o.D[0].Val
				if n == 1 {
					parms = arr(parms)
				}
				for at, told := range parms.L {
					if (told.Kind == api.Dict) != (at == i) || told.Kind != api.Dict && told.Kind != api.Null {
						t.Errorf("a Shape at %d of %d: at %d there is a %d", i, n, at, told.Kind)
					}
				}
				// Of one it is a Shape of noughts, of another one that tells of rows and is no more.
				l[(i+1)%n].Shape = predict.Shape{}
				made(t, "a Shape, and one of noughts", data, l...)
				l[(i+1)%n].Shape = predict.Shape{Predictor: 1, Colors: 3, Columns: 4}
				made(t, "a Shape, and one of Predictor 1", data, l...)
			}
		}
		made(t, fmt.Sprint(n, " links, all with Shapes"), data, repeated(n, func(i int) chain.Link { return shaped(many(n)[i], 10+i%6, 1, 1) })...)
	}
	for _, a := range five() {
		for _, b := range five() {
			o := made(t, a+" "+b, data, link(a), link(b))
			holdsKeys(t, "without Shapes", o, "Filter")
			made(t, a+" "+b, data, link(a), shaped(b, 15, 4, 2))
			made(t, a+" "+b, data, shaped(a, 2, 1, 1), link(b))
			made(t, a+" "+b, data, shaped(a, 14, 1, 1), shaped(b, 13, 2, 4))
		}
	}
}

func TestEncodeNoughts(t *testing.T) {
	for _, s := range five() {
		want := made(t, "noughts", "abc", chain.Link{Name: s})
		encodes(t, "of Predictor 1", "abc", linked(s), want, api.OK)
		// All of them, or it is a Shape that may not be.
		for _, shape := range []predict.Shape{{Predictor: 1}, {Colors: 1}, {Columns: 1}, {Predictor: 1, Colors: 1}, {Predictor: 1, Columns: 1}, {Colors: 1, Columns: 1}, {Predictor: 2}} {
			encodes(t, "not all noughts", "abc", []chain.Link{{Name: s, Shape: shape}}, api.Obj{}, api.ErrArg)
		}
	}
}

func TestEncodeArg(t *testing.T) {
	var wrong []chain.Link
	for _, s := range strange() {
		wrong = append(wrong, link(s), chain.Link{Name: s}, shaped(s, 12, 1, 1), shaped(s, 3, 1, 1))
	}
	for _, s := range five() {
		for _, n := range []int{-1 << 63, -1, 0, 3, 4, 5, 6, 7, 8, 9, 16, 17, 1 << 32, 1<<32 + 1, 1<<63 - 1} {
			wrong = append(wrong, shaped(s, n, 1, 1))
		}
		for _, predictor := range []int{1, 2, 10, 15} {
			for _, n := range []int{-1 << 63, -1, 0, 5, 1<<63 - 1} {
				wrong = append(wrong, shaped(s, predictor, n, 1))
			}
			for _, n := range []int{-1 << 63, -1, 0, 4097, 1<<63 - 1} {
				wrong = append(wrong, shaped(s, predictor, 1, n))
			}
		}
	}
	for _, l := range wrong {
		encodes(t, "alone", "abcd", []chain.Link{l}, api.Obj{}, api.ErrArg)
		encodes(t, "alone, of nothing", "", []chain.Link{l}, api.Obj{}, api.ErrArg)
		encodes(t, "ahead", "abcd", []chain.Link{l, link("FlateDecode")}, api.Obj{}, api.ErrArg)
		encodes(t, "behind", "abcd", []chain.Link{link("FlateDecode"), l}, api.Obj{}, api.ErrArg)
		// Ahead of data that are no whole rows, at whichever link, and of too many links.
		encodes(t, "no rows behind", "abcd", []chain.Link{l, shaped("FlateDecode", 12, 1, 3)}, api.Obj{}, api.ErrArg)
		encodes(t, "no rows ahead", "abcd", []chain.Link{shaped("FlateDecode", 12, 4, 4096), l}, api.Obj{}, api.ErrArg)
		for _, i := range []int{0, 4, 7, 8} {
			all := linked(many(9)...)
			all[i] = l
			encodes(t, "one of too many", "abcd", all, api.Obj{}, api.ErrArg)
			all[(i+1)%9] = shaped("LZWDecode", 12, 4, 4096)
			encodes(t, "one of too many, no rows", "abcd", all, api.Obj{}, api.ErrArg)
			if i < 8 {
				encodes(t, "one of eight", "abcd", all[:8], api.Obj{}, api.ErrArg)
			}
		}
	}
}

func TestEncodeLong(t *testing.T) {
	for _, n := range []int{9, 10, 100, 10000} {
		l := linked(many(n)...)
		encodes(t, "too many", "abcd", l, api.Obj{}, api.ErrLong)
		encodes(t, "too many, of nothing", "", l, api.Obj{}, api.ErrLong)
		for _, i := range []int{0, 8, n - 1} {
			l[i] = shaped("LZWDecode", 12, 3, 7)
			encodes(t, "too many, no rows", "abcd", l, api.Obj{}, api.ErrLong)
		}
		l[n-1].Name = "DCTDecode"
		encodes(t, "too many, a strange one", "abcd", l, api.Obj{}, api.ErrArg)
		encodes(t, "too many without Shapes", "abcd", repeated(n, func(int) chain.Link { return chain.Link{Name: "RunLengthDecode"} }), api.Obj{}, api.ErrLong)
	}
}

func TestEncodeForm(t *testing.T) {
	for _, s := range []string{"FlateDecode", "LZWDecode"} {
		for _, predictor := range []int{2, 10, 11, 12, 13, 14, 15} {
			for n := range 20 {
				data := strings.Repeat("x", n)
				l := shaped(s, predictor, 2, 3)
				if n%6 == 0 {
					made(t, "whole rows", data, l)
					made(t, "whole rows", data, link("ASCII85Decode"), l, link("FlateDecode"), link("ASCIIHexDecode"))
					continue
				}
				encodes(t, "no whole rows", data, []chain.Link{l}, api.Obj{}, api.ErrForm)
				encodes(t, "no whole rows, the last", data, []chain.Link{link("ASCIIHexDecode"), l}, api.Obj{}, api.ErrForm)
			}
			// What comes to a link counts: of 3 bytes Hex makes 7 signs, of 2 it makes 5.
			l := []chain.Link{link("RunLengthDecode"), shaped(s, predictor, 1, 7), link("ASCIIHexDecode")}
			made(t, "rows of signs", "abc", l...)
			encodes(t, "no rows of signs", "ab", l, api.Obj{}, api.ErrForm)
			encodes(t, "no rows of signs", "abcdefg", l, api.Obj{}, api.ErrForm)
		}
		made(t, "of Predictor 1 there are no rows", "abcde", shaped(s, 1, 2, 3))
	}
	for _, s := range five()[2:] {
		made(t, "a Shape that does not count asks for no rows", "abcde", shaped(s, 12, 2, 3))
	}
}

func TestEncodeByChance(t *testing.T) {
	c := newChance(144)
	faults := map[api.Errno]int{}
	for range 15000 {
		data, l := c.data(100), c.links(6)
		if c.Intn(50) == 0 {
			l = append(l, c.links(12)...)
		}
		_, fault := slowEncode(data, l...)
		faults[fault]++
		made(t, "by chance", data, l...)
	}
	for _, fault := range []api.Errno{api.OK, api.ErrArg, api.ErrLong, api.ErrForm} {
		if faults[fault] < 20 {
			t.Errorf("%v by chance %d times", fault, faults[fault])
		}
	}
}

// R1: what is long comes to an end.

func TestLongData(t *testing.T) {
	b := make([]byte, 1<<20)
	rand.New(rand.NewSource(145)).Read(b[:1<<19])
	for _, l := range [][]chain.Link{nil, linked("FlateDecode"), {shaped("FlateDecode", 15, 4, 1024)}, {link("RunLengthDecode"), shaped("LZWDecode", 14, 1, 4096)}, linked("ASCIIHexDecode", "FlateDecode", "ASCII85Decode", "RunLengthDecode")} {
		back(t, "a million", string(b), l...)
	}
}
