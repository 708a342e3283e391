package deflate_test

import (
	"bytes"
	"fmt"
	"math/rand"
	"slices"
	"strings"
	"testing"

	"pressmark/deflate"
)

// piece is a byte, or a row of n that stood so far behind.
type piece struct{ c, n, far int }

// spelt is what a text is to be written as: bytes, and rows as <length far>.
func spelt(pieces []piece) string {
	var w strings.Builder
	for _, p := range pieces {
		if p.n > 0 {
			fmt.Fprintf(&w, "<%d %d>", p.n, p.far)
			continue
		}
		w.WriteByte(byte(p.c))
	}
	return w.String()
}

// taker takes bits by the signs in which the tests write them.
type taker struct {
	t    *testing.T
	bits string
}

// number takes bits, the lowest first.
func (k *taker) number(width int) int {
	n := 0
	for i := range width {
		n += int(k.bits[i]-'0') << i
	}
	k.bits = k.bits[width:]
	return n
}

// symbol takes a code.
func (k *taker) symbol(codes []string) int {
	for i, code := range codes {
		if rest, ok := strings.CutPrefix(k.bits, code); ok {
			k.bits = rest
			return i
		}
	}
	k.t.Fatalf("no code: %s", k.bits)
	return 0
}

// apart takes Fixed's answer apart.
func apart(t *testing.T, b []byte) []piece {
	t.Helper()
	var w strings.Builder
	for _, c := range b {
		for i := range 8 {
			w.WriteByte('0' + c>>i&1)
		}
	}
	k := &taker{t, w.String()}
	if k.number(1) != 1 || k.number(2) != 1 {
		t.Errorf("%s: not the last block, of kind 1", short(b))
	}
	var symbols, far []string
	for i := range 288 {
		symbols = append(symbols, code(i))
	}
	for i := range distances() {
		far = append(far, fmt.Sprintf("%05b", i))
	}
	var l []piece
	for {
		s := k.symbol(symbols)
		if s == 256 {
			break
		}
		if s < 256 {
			l = append(l, piece{c: s})
			continue
		}
		p := piece{n: lengths()[s-257].least + k.number(lengths()[s-257].width)}
		d := distances()[k.symbol(far)]
		p.far = d.least + k.number(d.width)
		l = append(l, p)
	}
	if len(k.bits) > 7 || strings.Contains(k.bits, "1") {
		t.Errorf("%s: %q stands behind the end", short(b), k.bits)
	}
	return l
}

// says asks Fixed, and that it writes a text as told.
func says(t *testing.T, b []byte, want string) {
	t.Helper()
	writes(t, fmt.Sprintf("%.60q", b), deflate.Fixed, b, slowFixed(b))
	if got := spelt(apart(t, deflate.Fixed(b))); got != want {
		t.Errorf("%.60q: %q, want %q", b, got, want)
	}
}

// P5.3: what no row stands in.

func TestFixedByHand(t *testing.T) {
	for text, want := range map[string][]byte{
		"":         {0x03, 0x00},
		"a":        {0x4B, 0x04, 0x00},
		"ab":       {0x4B, 0x4C, 0x02, 0x00},
		"abc":      {0x4B, 0x4C, 0x4A, 0x06, 0x00},
		"aa":       {0x4B, 0x4C, 0x04, 0x00},
		"aaaa":     {0x4B, 0x04, 0x02, 0x00},
		"\x00":     {0x63, 0x00, 0x00},
		"\xff":     {0xFB, 0x0F, 0x00},
		"\x8f":     {0xEB, 0x07, 0x00},
		"\x90":     {0x9B, 0x00, 0x00},
		"hello":    {0xCB, 0x48, 0xCD, 0xC9, 0xC9, 0x07, 0x00},
		"\xff\xff": {0xFB, 0xFF, 0x1F, 0x00},
	} {
		writes(t, fmt.Sprintf("%q", text), deflate.Fixed, []byte(text), want)
	}
	holds(t, "nil", deflate.Fixed(nil), []byte{0x03, 0x00})
}

func TestFixedOfEachByte(t *testing.T) {
	for c := range 256 {
		b := []byte{byte(c)}
		writes(t, fmt.Sprint("byte ", c), deflate.Fixed, b, (&slow{}).begin().letters(string(b)).end().bytes())
	}
	says(t, rising(256), string(rising(256)))
	down := rising(256)
	slices.Reverse(down)
	says(t, down, string(down))
}

func TestFixedWidths(t *testing.T) {
	// 3 bits ahead and 7 behind: 8 for each byte below 144, 9 from there on.
	for n := range 60 {
		b := rising(144)[:n]
		if got, want := len(deflate.Fixed(b)), (3+8*n+7+7)/8; got != want {
			t.Errorf("%d bytes below 144: %d bytes, want %d", n, got, want)
		}
		b = rising(256)[144 : 144+n]
		if got, want := len(deflate.Fixed(b)), (3+9*n+7+7)/8; got != want {
			t.Errorf("%d bytes from 144 on: %d bytes, want %d", n, got, want)
		}
	}
}

// P5.3: how long a row is.

func TestRowsOfFewBytes(t *testing.T) {
	for text, want := range map[string]string{
		"aa":        "aa",
		"aaa":       "aaa",
		"aaaa":      "a<3 1>",
		"aaaaa":     "a<4 1>",
		"abab":      "abab",
		"ababa":     "ab<3 2>",
		"abcab":     "abcab",
		"abcabx":    "abcabx",
		"abcabc":    "abc<3 3>",
		"abcabcx":   "abc<3 3>x",
		"abcxabcy":  "abcx<3 4>y",
		"abxabyabz": "abxabyabz",
	} {
		says(t, []byte(text), want)
	}
}

func TestRowsOfManyBytes(t *testing.T) {
	for n, want := range map[int]string{
		2:   "aaa",
		3:   "a<3 1>",
		4:   "a<4 1>",
		256: "a<256 1>",
		257: "a<257 1>",
		258: "a<258 1>",
		259: "a<258 1>a",
		260: "a<258 1>aa",
		261: "a<258 1><3 1>",
		262: "a<258 1><4 1>",
		515: "a<258 1><257 1>",
		516: "a<258 1><258 1>",
		517: "a<258 1><258 1>a",
		519: "a<258 1><258 1><3 1>",
	} {
		b := bytes.Repeat([]byte("a"), n+1)
		says(t, b, want)
		says(t, append(b, 'x'), want+"x")
	}
}

func TestRowsThatStoodWhole(t *testing.T) {
	// Of up to 64 bytes from 64 behind none is made by the row itself.
	for n := 62; n <= 64; n++ {
		b := more(rising(64), n, 64)
		says(t, b, string(rising(64))+fmt.Sprintf("<%d 64>", n))
		says(t, append(b, 255), string(rising(64))+fmt.Sprintf("<%d 64>", n)+"\xff")
	}
}

// P5.3: how far behind it stood.

func TestFarthest(t *testing.T) {
	for far, want := range map[int]string{
		3: "<3 3>!", 4: "<3 4>!", 5: "<3 5>!", 32: "<3 32>!", 33: "<3 33>!", 62: "<3 62>!", 63: "<3 63>!", 64: "<3 64>!",
		65: "\x00\x01\x02!", 66: "\x00\x01\x02!", 67: "\x00\x01\x02!", 128: "\x00\x01\x02!", 129: "\x00\x01\x02!",
	} {
		b := append(rising(far), 0, 1, 2, '!')
		says(t, b, string(rising(far))+want)
	}
	// One that stood 65 behind counts as soon as a part of it stood nearer.
	b := slices.Concat(rising(60), []byte("abc"), rising(3))
	says(t, append(b, 3, 4, 5, 6), string(rising(60))+"abc<7 63>")
	b = slices.Concat(rising(65), []byte{1, 2, 3})
	says(t, b, string(rising(65))+"<3 64>")
	b = slices.Concat(rising(65), []byte{0, 1, 2, 3})
	says(t, b, string(rising(65))+"\x00\x01\x02\x03")
	b = slices.Concat(rising(65), rising(65))
	says(t, b, string(rising(65))+string(rising(65)))
	says(t, slices.Concat(rising(64), rising(64)), string(rising(64))+"<64 64>")
}

func TestNearest(t *testing.T) {
	for text, want := range map[string]string{
		"abc1abc2abc3":    "abc1<3 4>2<3 4>3",
		"abc1xxabc2abc3":  "abc1xx<3 6>2<3 4>3",
		"aaaaaaaaaaaaa":   "a<12 1>",
		"abababababab":    "ab<10 2>",
		"abcdxabcdyabcdz": "abcdx<4 5>y<4 5>z",
	} {
		says(t, []byte(text), want)
	}
	// Of rows behind of every number of places, all as long.
	for gap := range 58 {
		b := slices.Concat([]byte("abc"), rising(gap), []byte("abcY"), []byte("abcZ"))
		got := apart(t, deflate.Fixed(b))
		if p := got[len(got)-2]; p != (piece{n: 3, far: 4}) {
			t.Errorf("%q: %q", b, spelt(got))
		}
	}
}

func TestLongerButFarther(t *testing.T) {
	for text, want := range map[string]string{
		"abcdXabcYabcdZ":        "abcdX<3 5>Y<4 9>Z",
		"abcdeXabcdYabcZabcdeV": "abcdeX<4 6>Y<3 5>Z<5 15>V",
		"abcXabcdYabcdZ":        "abcX<3 4>dY<4 5>Z",
		"abcdeabcXabcde":        "abcde<3 5>X<5 9>",
		"aabaaab":               "aaba<3 4>",
	} {
		says(t, []byte(text), want)
	}
	// The longest stands 64 behind, each shorter one nearer.
	fill := string(rising(256)[128:159])
	says(t, []byte("abcdefghi"+fill+"abcdefgh+abcdefg-abcdef.abcdefghi"), "abcdefghi"+fill+"<8 40>+<7 9>-<6 8>.<9 64>")
	says(t, []byte("abcdefghi"+fill+"_abcdefgh+abcdefg-abcdef.abcdefghi"), "abcdefghi"+fill+"_<8 41>+<7 9>-<6 8>.<8 24>i")
}

func TestWhatIsMet(t *testing.T) {
	// At each place the longest is taken at once, also where one from the next place on would be longer.
	for text, want := range map[string]string{
		"abc.bcdefg.abcdefg":    "abc.bcdefg.<3 11><4 8>",
		"abcd.bcdefgh.abcdefgh": "abcd.<3 4>efgh.<4 13><4 9>",
	} {
		says(t, []byte(text), want)
	}
}

// P5.3: rows that run into what they make.

func TestRowsIntoWhatTheyMake(t *testing.T) {
	for far := 1; far <= 64; far++ {
		for _, n := range []int{3, 4, 63, 64, 65, 66, 128, 129, 257, 258} {
			b := more(rising(far), n, far)
			want := string(rising(far)) + fmt.Sprintf("<%d %d>", n, far)
			if got := spelt(apart(t, deflate.Fixed(b))); got != want {
				t.Errorf("%d bytes from %d behind: %q", n, far, got)
			}
			b = append(b, 255)
			if got := spelt(apart(t, deflate.Fixed(b))); got != want+"\xff" {
				t.Errorf("%d bytes from %d behind, and one: %q", n, far, got)
			}
		}
	}
}

// P5.3: each length and each distance, at all their bits.

func TestEachLengthAndDistance(t *testing.T) {
	for far := 1; far <= 64; far++ {
		begun := (&slow{}).begin().letters(string(rising(far)))
		for n := 3; n <= 258; n++ {
			b := more(rising(far), n, far)
			want := (&slow{slices.Clone(begun.bits)}).again(n, far).end().bytes()
			holds(t, fmt.Sprintf("a row of %d, %d behind", n, far), deflate.Fixed(b), want)
		}
	}
}

func TestCodesByHand(t *testing.T) {
	// The codes of RFC 1951, written out: the length's symbol, its bits as they stand, the distance's.
	for what, bits := range map[[2]int]string{
		{3, 1}:    "0000001" + "00000",
		{4, 2}:    "0000010" + "00001",
		{10, 3}:   "0001000" + "00010",
		{11, 4}:   "0001001" + "0" + "00011",
		{12, 5}:   "0001001" + "1" + "00100" + "0",
		{13, 6}:   "0001010" + "0" + "00100" + "1",
		{18, 7}:   "0001100" + "1" + "00101" + "0",
		{19, 8}:   "0001101" + "00" + "00101" + "1",
		{20, 9}:   "0001101" + "10" + "00110" + "00",
		{21, 12}:  "0001101" + "01" + "00110" + "11",
		{34, 13}:  "0010000" + "11" + "00111" + "00",
		{35, 16}:  "0010001" + "000" + "00111" + "11",
		{39, 17}:  "0010001" + "001" + "01000" + "000",
		{66, 24}:  "0010100" + "111" + "01000" + "111",
		{67, 25}:  "0010101" + "0000" + "01001" + "000",
		{114, 32}: "0010111" + "1111" + "01001" + "111",
		{115, 33}: "11000000" + "0000" + "01010" + "0000",
		{130, 48}: "11000000" + "1111" + "01010" + "1111",
		{131, 49}: "11000001" + "00000" + "01011" + "0000",
		{132, 50}: "11000001" + "10000" + "01011" + "1000",
		{227, 63}: "11000100" + "00000" + "01011" + "0111",
		{257, 64}: "11000100" + "01111" + "01011" + "1111",
		{258, 64}: "11000101" + "01011" + "1111",
		{258, 1}:  "11000101" + "00000",
	} {
		b := more(rising(what[1]), what[0], what[1])
		want := (&slow{}).begin().letters(string(rising(what[1]))).text(bits).end().bytes()
		holds(t, fmt.Sprintf("a row of %d, %d behind", what[0], what[1]), deflate.Fixed(b), want)
	}
}

// P5.3: the end of the bytes within a row.

func TestEndWithinARow(t *testing.T) {
	whole := more([]byte("abcdefgh"), 300, 8)
	for n := range len(whole) + 1 {
		b := whole[:n]
		writes(t, fmt.Sprint("cut at ", n), deflate.Fixed, b, slowFixed(b))
		// What stands in the spare room goes on, and does not count.
		holds(t, fmt.Sprint("cut at ", n), deflate.Fixed(b), deflate.Fixed(bytes.Clone(b)))
	}
	for n, want := range map[int]string{
		8: "abcdefgh", 9: "abcdefgha", 10: "abcdefghab", 11: "abcdefgh<3 8>", 12: "abcdefgh<4 8>",
		266: "abcdefgh<258 8>", 267: "abcdefgh<258 8>c", 268: "abcdefgh<258 8>cd", 269: "abcdefgh<258 8><3 8>",
	} {
		says(t, whole[:n], want)
	}
}

// P5.3, all of it, as by the chapter's words.

func TestFixedOfAllShortTexts(t *testing.T) {
	for kinds, most := range map[int]int{2: 12, 3: 8, 4: 6} {
		for n := range most + 1 {
			b := make([]byte, n)
			for {
				holds(t, fmt.Sprintf("% x", b), deflate.Fixed(b), slowFixed(b))
				i := 0
				for i < n && int(b[i]) == kinds-1 {
					b[i] = 0
					i++
				}
				if i == n {
					break
				}
				b[i]++
			}
		}
	}
}

func TestFixedOfManyKinds(t *testing.T) {
	for name, b := range kinds() {
		b = b[:min(len(b), 9000)]
		writes(t, name, deflate.Fixed, b, slowFixed(b))
	}
}

func TestFixedByChance(t *testing.T) {
	chance := rand.New(rand.NewSource(258))
	for range 1500 {
		var b []byte
		kinds := 1 + chance.Intn(1<<chance.Intn(9))
		for len(b) < chance.Intn(900) {
			if len(b) > 0 && chance.Intn(3) > 0 {
				b = more(b, 1+chance.Intn(1<<chance.Intn(10)), 1+chance.Intn(min(len(b), 70)))
			}
			b = append(b, byte(chance.Intn(kinds)))
		}
		holds(t, fmt.Sprintf("% x", b), deflate.Fixed(b), slowFixed(b))
	}
}

// FuzzFixed holds Fixed against slowFixed, as go test -fuzz asks.
func FuzzFixed(f *testing.F) {
	f.Add([]byte("abcabcabcd"))
	f.Add(more(rising(64), 300, 64))
	f.Fuzz(func(t *testing.T, b []byte) {
		holds(t, fmt.Sprintf("% x", b), deflate.Fixed(b), slowFixed(b))
	})
}
