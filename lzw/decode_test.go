package lzw_test

import (
	"fmt"
	"math"
	"math/rand"
	"slices"
	"strings"
	"testing"

	"pressmark/api"
	"pressmark/lzw"
)

// P8.1

func TestDecode(t *testing.T) {
	for b, want := range map[string]string{
		"\x80\x80":         "",  // 257
		"\x80\x40\x40":     "",  // 256, 257
		"\x30\xc0\x40":     "a", // 97, 257
		"\x80\x18\x60\x20": "a", // 256, 97, 257
		// That of ISO 32000-1, 7.4.4.2.
		"\x80\x0b\x60\x50\x22\x0c\x0c\x85\x01": "-----A---B",
	} {
		reads(t, fmt.Sprintf("% x", b), b, want)
	}
	for _, c := range []struct {
		codes []int
		want  string
	}{
		{[]int{0}, "\x00"},
		{[]int{255}, "\xff"},
		{[]int{97, 98}, "ab"},
		{[]int{97, 97}, "aa"},
		{[]int{97, 98, 258}, "abab"},
		{[]int{97, 98, 258, 259}, "ababba"},
		{[]int{97, 98, 258, 259, 260}, "ababbaabb"},
		{[]int{97, 98, 258, 258, 258}, "abababab"},
		{[]int{97, 98, 99, 258, 259, 260}, "abcabbcca"},
		// What is the next free code.
		{[]int{97, 258}, "aaa"},
		{[]int{97, 258, 259}, "aaaaaa"},
		{[]int{97, 258, 259, 260}, "aaaaaaaaaa"},
		{[]int{97, 98, 259}, "abbb"},
		{[]int{97, 98, 258, 260}, "abababa"},
		{[]int{97, 98, 258, 260, 261}, "abababaabaa"},
		{[]int{97, 258, 98, 260}, "aaabbb"},
		{[]int{97, 258, 258, 98}, "aaaaab"},
		// Who tells bytes that could be told as a row enters it none the less, twice, if it comes so.
		{[]int{97, 97, 97, 97, 258, 259, 260}, "aaaaaaaaaa"},
		{[]int{97, 98, 97, 98, 258, 259, 260, 261, 262}, "abababbaabbaabb"},
	} {
		what := fmt.Sprint(c.codes)
		reads(t, what, stream(more(c.codes, 257)...), c.want)
		reads(t, what+" behind a clear", stream(append([]int{256}, more(c.codes, 257)...)...), c.want)
		reads(t, what+" behind others and a clear", stream(append([]int{120, 121, 258, 256}, more(c.codes, 257)...)...), "xyxy"+c.want)
		refuses(t, what+", no end", stream(c.codes...), api.ErrShort)
	}
}

func TestDecodeOfNothing(t *testing.T) {
	for _, most := range []int{math.MinInt, -1, 0, 1, 100, math.MaxInt} {
		answers(t, "nothing", "", most, "", api.ErrShort)
		if b, e := lzw.Decode(nil, most); b != nil || e != api.ErrShort {
			t.Errorf("nil: %v, %v, want ErrShort", b, e)
		}
		answers(t, "the end alone", "\x80\x80", most, "", api.OK)
		answers(t, "a clear alone", "\x80\x00", most, "", api.ErrShort)
		answers(t, "a clear and the end", "\x80\x40\x40", most, "", api.OK)
	}
}

func TestDecodeBehindTheEnd(t *testing.T) {
	for _, codes := range [][]int{{257}, {256, 257}, {97, 257}, {97, 98, 258, 257}} {
		ended := stream(codes...)
		want, _ := slowDecode(ended, 100)
		for c := range 256 {
			reads(t, "each byte behind", ended+string([]byte{byte(c)}), want)
		}
		for _, behind := range []string{"\x80\x80", "\xff\xff\xff", "\x30\xc0\x40", ended, alike(1000)} {
			reads(t, "behind", ended+behind, want)
		}
		// What fills the last byte does not count.
		for fill := range 1 << (8*len(ended) - 9*len(codes)) {
			b := []byte(ended)
			b[len(b)-1] |= byte(fill)
			reads(t, "another filling", string(b), want)
		}
		for _, code := range []int{0, 256, 257, 258, 400, 511} {
			reads(t, fmt.Sprint(code, " behind"), stream(more(codes, code, code)...), want)
		}
	}
}

func TestDecodeFirstCode(t *testing.T) {
	for _, ahead := range [][]int{nil, {256}, {256, 256}, {97, 256}, {97, 98, 258, 256}, {97, 98, 258, 256, 256, 256}, {97, 258, 259, 256, 98, 258, 256}} {
		told, e := slowDecode(stream(more(ahead, 257)...), 100)
		if e != api.OK {
			t.Fatal(ahead, e)
		}
		for code := range 512 {
			what := fmt.Sprint(code, " behind ", ahead)
			b := stream(more(ahead, code, 257)...)
			switch {
			case code < 256:
				reads(t, what, b, told+string([]byte{byte(code)}))
			case code < 258:
				reads(t, what, b, told)
			default:
				refuses(t, what, b, api.ErrForm)
				answers(t, what+", just so much room", b, len(told), "", api.ErrForm)
				answers(t, what+", no more behind", stream(more(ahead, code)...), len(told), "", api.ErrForm)
			}
		}
	}
}

func TestDecodeOfEachCode(t *testing.T) {
	bytes := unlike(200)
	for _, n := range []int{1, 2, 3, 4, 100, 200} {
		told := of(bytes[:n])
		free := 257 + n
		for code := 258; code < 512; code++ {
			what := fmt.Sprint(code, " behind ", n)
			b := stream(more(told, code, 257)...)
			switch {
			case code < free:
				reads(t, what, b, bytes[:n]+bytes[code-258:code-256])
			case code == free:
				reads(t, what, b, bytes[:n]+strings.Repeat(bytes[n-1:n], 2))
			default:
				refuses(t, what, b, api.ErrForm)
				answers(t, what+", just so much room", b, n, "", api.ErrForm)
			}
		}
	}
}

func TestDecodeOfClears(t *testing.T) {
	for n := range 20 {
		clears := slices.Repeat([]int{256}, n)
		reads(t, fmt.Sprint(n, " clears"), stream(more(clears, 257)...), "")
		reads(t, fmt.Sprint(n, " clears, a byte"), stream(more(clears, 97, 257)...), "a")
		reads(t, fmt.Sprint(n, " clears behind a byte"), stream(more(more([]int{97}, clears...), 98, 257)...), "ab")
		refuses(t, fmt.Sprint(n, " clears, no end"), stream(clears...), api.ErrShort)
	}
	// The last row ahead of a clear enters none with what stands behind it.
	reads(t, "rows anew", stream(97, 98, 256, 99, 258, 257), "abccc")
	reads(t, "rows anew", stream(97, 98, 258, 256, 99, 100, 258, 259, 257), "ababcdcddc")
	refuses(t, "a row of those ahead", stream(97, 98, 99, 256, 100, 259, 257), api.ErrForm)
	refuses(t, "a row over a clear", stream(97, 256, 98, 259, 257), api.ErrForm)
}

// stepped is codes behind a beginning or a clear, none of which clears, in widths that are written out: behind so many of them the next free code is 511, 1023, 2047.
func stepped(codes ...int) []int {
	for _, step := range [][2]int{{1790, 12}, {766, 11}, {254, 10}} {
		if len(codes) >= step[0] {
			codes = slices.Insert(slices.Clone(codes), step[0], -step[1])
		}
	}
	return codes
}

// frees are next free codes on either side of each step of the width.
func frees() []int {
	return []int{509, 510, 511, 512, 513, 1021, 1022, 1023, 1024, 1025, 2045, 2046, 2047, 2048, 2049, 4093, 4094, 4095, 4096}
}

func TestDecodeAtEachWidth(t *testing.T) {
	bytes := unlike(4000)
	for _, free := range frees() {
		n := free - 257
		told, row := of(bytes[:n]), bytes[:n]
		for _, ahead := range [][]int{nil, {256}, {97, 98, 256}} {
			begun := ""
			if len(ahead) == 3 {
				begun = "ab"
			}
			with := func(codes ...int) string { return inWidths(more(ahead, stepped(more(told, codes...)...)...)...) }
			what := fmt.Sprint("free is ", free)
			reads(t, what+", the end", with(257), begun+row)
			reads(t, what+", a byte", with(97, 257), begun+row+"a")
			reads(t, what+", bytes", with(97, 98, 99, 257), begun+row+"abc")
			reads(t, what+", the last row", with(free-1, 257), begun+row+row[n-2:])
			reads(t, what+", the first row", with(258, 257), begun+row+row[:2])
			if free < 4096 {
				reads(t, what+", itself", with(free, 257), begun+row+row[n-1:]+row[n-1:])
				reads(t, what+", itself, and again", with(free, free, 257), begun+row+strings.Repeat(row[n-1:], 4))
			}
			if free < 4095 {
				// Also where the next width begins: there one more fits.
				refuses(t, what+", one beyond", with(free+1, 257), api.ErrForm)
				reads(t, what+", itself, the next one", with(free, free+1, 257), begun+row+strings.Repeat(row[n-1:], 5))
			}
			refuses(t, what+", no end", with(), api.ErrShort)
		}
	}
}

func TestDecodeClearAtEachWidth(t *testing.T) {
	bytes := unlike(4000)
	for _, free := range append(frees(), 4097, 4200) { // the last two as if the table had room
		n := free - 257
		told, row := of(bytes[:n]), bytes[:n]
		what := fmt.Sprint(n, " told")
		anew := func(codes ...int) string {
			return inWidths(append(more(stepped(more(told, 256)...), -9), codes...)...)
		}
		reads(t, what+", a clear, the end", anew(257), row)
		reads(t, what+", a clear, bytes", anew(97, 98, 258, 257), row+"abab")
		reads(t, what+", clears", anew(256, 256, 97, 258, 257), row+"aaa")
		refuses(t, what+", a clear, a row", anew(258, 257), api.ErrForm)
		refuses(t, what+", a clear, no end", anew(), api.ErrShort)
		again := stepped(more(told, 257)...)
		reads(t, what+", a clear, and all again", anew(again...), row+row)
	}
}

func TestDecodeOfAnotherWidth(t *testing.T) {
	bytes := unlike(4000)
	for _, free := range frees() {
		told := stepped(of(bytes[:free-257])...)
		for width := 8; width <= 13; width++ {
			b := inWidths(more(told, -width, 257, 0, 0, 0)...)
			want, fault := slowDecode(b, 9999)
			answers(t, fmt.Sprint("free is ", free, ", the end in ", width), b, 9999, want, fault)
			if ended := fault == api.OK && want == bytes[:free-257]; ended != (width == wide(free)) {
				t.Errorf("free is %d, the end in %d: %v", free, width, ended)
			}
		}
	}
}

func TestDecodeOfAFullTable(t *testing.T) {
	bytes := unlike(6000)
	for _, n := range []int{3839, 3840, 3841, 4095, 5000} {
		codes, want := of(bytes[:n]), bytes[:n]
		for code := range 4096 {
			switch {
			case code < 256:
				codes, want = append(codes, code), want+string([]byte{byte(code)})
			case code >= 258:
				codes, want = append(codes, code), want+bytes[code-258:code-256]
			}
		}
		reads(t, fmt.Sprint("full behind ", n), inWidths(stepped(append(codes, 257)...)...), want)
	}
	// The last free code, told as itself, is the last that is entered.
	codes := more(of(bytes[:3838]), 4095, 4095, 97, 98, 4095, 4094, 257)
	twice := strings.Repeat(bytes[3837:3838], 2)
	reads(t, "the last one", inWidths(stepped(codes...)...), bytes[:3838]+twice+twice+"ab"+twice+bytes[3836:3838])
}

func TestDecodeTooShort(t *testing.T) {
	// Of each width the last code is cut by one bit, by two, and so on to a byte.
	cut := map[[2]int]bool{}
	bytes := unlike(3900)
	for clears := range 8 {
		ahead := slices.Repeat([]int{256}, clears)
		for _, begin := range []int{0, 260, 800, 1900, 3836} {
			for n := begin; n < begin+8; n++ {
				b := stream(more(append(ahead, of(bytes[:n])...), 257)...)
				cut[[2]int{wide(257 + n), bitsOf(n+1) + 9*clears - 8*(len(b)-1)}] = true
				b = b[:len(b)-1]
				what := fmt.Sprint(clears, " clears, ", n, ", a byte less")
				refuses(t, what, b, api.ErrShort)
				answers(t, what+", just so much room", b, n, "", api.ErrShort)
				if n > 0 {
					answers(t, what+", no room for a byte", b, n-1, "", api.ErrLimit)
				}
			}
		}
	}
	for width := 9; width <= 12; width++ {
		for bits := 1; bits <= 8; bits++ {
			if !cut[[2]int{width, bits}] {
				t.Errorf("none of %d bits is cut by %d", width, bits)
			}
		}
	}
	refuses(t, "a bit", "\x80", api.ErrShort)
	refuses(t, "a bit", "\x30", api.ErrShort)
	whole := stream(97, 98, 258, 259, 99, 256, 100, 258, 101, 257)
	for n := range whole {
		refuses(t, fmt.Sprint("cut to ", n), whole[:n], api.ErrShort)
	}
}

// bitsOf is how many bits so many codes are behind a beginning.
func bitsOf(codes int) int {
	return 9*codes + max(codes-254, 0) + max(codes-766, 0) + max(codes-1790, 0)
}

func TestDecodeMost(t *testing.T) {
	for _, most := range []int{0, -1, -100, math.MinInt} {
		for _, codes := range [][]int{{97, 257}, {256, 97, 257}, {97, 98, 257}, {97, 258, 257}} {
			answers(t, "a byte too many", stream(codes...), most, "", api.ErrLimit)
		}
		for _, codes := range [][]int{{257}, {256, 257}, {256, 256, 257}, {257, 97}, {257, 300}} {
			answers(t, "no byte", stream(codes...), most, "", api.OK)
		}
	}
	for _, codes := range [][]int{
		{97, 98, 99, 257}, {97, 258, 259, 260, 257}, {97, 98, 258, 260, 261, 257}, {97, 258, 256, 98, 258, 259, 257},
		more(more(of(unlike(20)), 258, 277, 256), 97, 98, 258, 257),
	} {
		b := stream(codes...)
		want, e := slowDecode(b, math.MaxInt)
		if e != api.OK {
			t.Fatal(codes, e)
		}
		for most := range len(want) {
			answers(t, "fewer", b, most, "", api.ErrLimit)
		}
		for most := len(want); most < len(want)+5; most++ {
			answers(t, "as many", b, most, want, api.OK)
		}
	}
}

func TestDecodeFirstFault(t *testing.T) {
	for _, c := range []struct {
		codes []int
		most  int
		fault api.Errno
	}{
		// A byte too many ahead of a code that may not be.
		{[]int{97, 400, 257}, 0, api.ErrLimit},
		{[]int{97, 400, 257}, 1, api.ErrForm},
		{[]int{97, 98, 260, 257}, 1, api.ErrLimit},
		{[]int{97, 98, 260, 257}, 2, api.ErrForm},
		{[]int{97, 258, 260, 257}, 0, api.ErrLimit},
		{[]int{97, 258, 260, 257}, 1, api.ErrLimit},
		{[]int{97, 258, 260, 257}, 2, api.ErrLimit},
		{[]int{97, 258, 260, 257}, 3, api.ErrForm},
		{[]int{97, 256, 258, 257}, 0, api.ErrLimit},
		{[]int{97, 256, 258, 257}, 1, api.ErrForm},
		// And behind it.
		{[]int{258, 97, 257}, 0, api.ErrForm},
		{[]int{258, 97, 257}, -1, api.ErrForm},
		{[]int{511, 257}, math.MinInt, api.ErrForm},
		{[]int{256, 300, 97, 257}, 0, api.ErrForm},
		{[]int{97, 259, 97, 257}, 1, api.ErrForm},
		{[]int{97, 98, 258, 262, 97, 257}, 4, api.ErrForm},
		// A row of which a part would fit.
		{[]int{97, 258, 257}, 1, api.ErrLimit},
		{[]int{97, 258, 257}, 2, api.ErrLimit},
		{[]int{97, 98, 258, 257}, 3, api.ErrLimit},
		{[]int{97, 98, 258, 400}, 3, api.ErrLimit},
		{[]int{97, 98, 258, 400}, 4, api.ErrForm},
		// No end besides.
		{[]int{}, 0, api.ErrShort},
		{[]int{256}, 0, api.ErrShort},
		{[]int{256, 256}, -1, api.ErrShort},
		{[]int{97}, 0, api.ErrLimit},
		{[]int{97}, 1, api.ErrShort},
		{[]int{97, 98}, 1, api.ErrLimit},
		{[]int{97, 98}, 2, api.ErrShort},
		{[]int{97, 258}, 2, api.ErrLimit},
		{[]int{97, 258}, 3, api.ErrShort},
		{[]int{258}, 0, api.ErrForm},
		{[]int{258}, 9, api.ErrForm},
		{[]int{97, 259}, 9, api.ErrForm},
		{[]int{97, 256}, 0, api.ErrLimit},
		{[]int{97, 256}, 1, api.ErrShort},
	} {
		answers(t, fmt.Sprint(c.codes), stream(c.codes...), c.most, "", c.fault)
	}
	// The code of too few bits: what it would be does not count.
	for _, c := range []struct {
		codes []int
		most  int
		fault api.Errno
	}{
		{[]int{97}, 0, api.ErrShort},
		{[]int{257}, 0, api.ErrShort},
		{[]int{510}, 0, api.ErrShort},
		{[]int{97, 400}, 0, api.ErrLimit},
		{[]int{97, 400}, 1, api.ErrShort},
		{[]int{97, 258}, 0, api.ErrLimit},
		{[]int{97, 258}, 1, api.ErrShort},
		{[]int{97, 257}, 0, api.ErrLimit},
		{[]int{97, 257}, 1, api.ErrShort},
		{[]int{300, 257}, 0, api.ErrForm},
		{[]int{97, 98, 258, 257}, 1, api.ErrLimit},
		{[]int{97, 98, 258, 257}, 3, api.ErrLimit},
		{[]int{97, 98, 258, 257}, 4, api.ErrShort},
		{[]int{97, 98, 260, 257}, 2, api.ErrForm},
	} {
		b := stream(c.codes...)
		answers(t, fmt.Sprint("a byte less than ", c.codes), b[:len(b)-1], c.most, "", c.fault)
	}
}

func TestDecodeOfAllBytes(t *testing.T) {
	for _, b := range append(texts("\x00\x01\x20\x40\x80\x81\xc0\xff", 5), texts("\x00\x80\x40\x41", 7)...) {
		for _, most := range []int{-1, 0, 1, 2, 3, 100} {
			want, fault := slowDecode(b, most)
			answers(t, "all bytes", b, most, want, fault)
		}
	}
}

// codesByChance are codes most of which may be where they stand.
func codesByChance(chance *rand.Rand) []int {
	var codes []int
	free, begun := 258, false
	clears, beyond := chance.Intn(300)+2, chance.Intn(4000)+2
	for range chance.Intn(300) * chance.Intn(30) {
		code := chance.Intn(256)
		switch kind := chance.Intn(10); {
		case begun && kind < 5:
			code = 258 + chance.Intn(free-257)
		case begun && kind == 5:
			code = free
		}
		switch {
		case chance.Intn(clears) == 0:
			code = 256
		case chance.Intn(beyond) == 0:
			code = 257 + chance.Intn(wide(free)*200)
		}
		code = min(code, 4095)
		codes = append(codes, code)
		switch {
		case code == 256:
			free, begun = 258, false
		case begun && free < 4096:
			free++
		default:
			begun = true
		}
	}
	return append(codes, 257)
}

func TestDecodeByChance(t *testing.T) {
	chance := rand.New(rand.NewSource(81))
	met := map[api.Errno]int{}
	for range 1500 {
		b := stream(codesByChance(chance)...)
		if chance.Intn(4) == 0 {
			b = b[:chance.Intn(len(b)+1)]
		}
		all, fault := slowDecode(b, math.MaxInt)
		answers(t, "by chance", b, math.MaxInt, all, fault)
		met[fault]++
		most := chance.Intn(2*len(all) + 10)
		want, fault := slowDecode(b, most)
		answers(t, "by chance, most", b, most, want, fault)
		met[fault]++
	}
	for _, fault := range []api.Errno{api.OK, api.ErrForm, api.ErrShort, api.ErrLimit} {
		if met[fault] < 100 {
			t.Errorf("%v is met %d times", fault, met[fault])
		}
	}
}

func TestDecodeOfBytesByChance(t *testing.T) {
	chance := rand.New(rand.NewSource(82))
	for range 20000 {
		b := make([]byte, chance.Intn(40))
		chance.Read(b)
		for i := range b {
			if chance.Intn(2) == 0 {
				b[i] &= 0x3f
			}
		}
		most := chance.Intn(40)
		want, fault := slowDecode(string(b), most)
		answers(t, "bytes by chance", string(b), most, want, fault)
	}
}

// FuzzDecode asks Decode of anything, as go test -fuzz asks.
func FuzzDecode(f *testing.F) {
	f.Add("\x80\x0b\x60\x50\x22\x0c\x0c\x85\x01", 10)
	f.Add(stream(more(of(unlike(300)), 400, 256, 97, 258, 257)...), 1000)
	f.Fuzz(func(t *testing.T, b string, most int) {
		want, fault := slowDecode(b, most)
		answers(t, "by fuzz", b, most, want, fault)
	})
}
