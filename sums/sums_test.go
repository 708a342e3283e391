package sums_test

import (
	"bytes"
	"hash/adler32"
	"math"
	"slices"
	"testing"

	"pressmark/sums"
)

// slow is what More has to answer, by the chapter's words: byte by byte, each sum modulo 65521.
func slow(s uint32, b []byte) uint32 {
	lower, upper := uint64(s)&65535%65521, uint64(s)>>16%65521
	for _, c := range b {
		lower = (lower + uint64(c)) % 65521
		upper = (upper + lower) % 65521
	}
	return uint32(upper<<16 | lower)
}

// alike is what More has to answer of n bytes that are all c, by a formula: no byte is walked.
func alike(s uint32, c byte, n int) uint32 {
	lower, upper := uint64(s)&65535%65521, uint64(s)>>16%65521
	m, k := uint64(c), uint64(n)
	return uint32((upper+k*lower+m*(k*(k+1)/2))%65521<<16 | (lower+m*k)%65521)
}

// halves are halves of a sum at which something begins or ends.
func halves() []uint32 {
	return []uint32{0, 1, 2, 14, 15, 255, 256, 32767, 32768, 65265, 65266, 65519, 65520, 65521, 65522, 65534, 65535}
}

// starts are sums of all those halves.
func starts() []uint32 {
	var l []uint32
	for _, upper := range halves() {
		for _, lower := range halves() {
			l = append(l, upper<<16|lower)
		}
	}
	return l
}

// mixed are n bytes of all kinds, the same ones each time.
func mixed(n int) []byte {
	b := make([]byte, n)
	x := uint32(2463534242)
	for i := range b {
		x ^= x << 13
		x ^= x >> 17
		x ^= x << 5
		b[i] = byte(x >> 11)
	}
	return b
}

// nines are n bytes of 255, the greatest.
func nines(n int) []byte { return bytes.Repeat([]byte{255}, n) }

// asks holds More of s and b against what it has to be.
func asks(t *testing.T, what string, s uint32, b []byte, want uint32) {
	t.Helper()
	if got := sums.More(s, b); got != want {
		t.Errorf("%q: More(%08X, %d bytes): %08X, want %08X", what, s, len(b), got, want)
	}
}

// adler holds Adler of parts against what it has to be.
func adler(t *testing.T, what string, want uint32, parts ...[]byte) {
	t.Helper()
	if got := sums.Adler(parts...); got != want {
		t.Errorf("%q: Adler of %d parts: %08X, want %08X", what, len(parts), got, want)
	}
}

// P3.1: Adler.

func TestAdler(t *testing.T) {
	for text, want := range map[string]uint32{
		"":                           0x00000001,
		"Wikipedia":                  0x11E60398,
		"\x00":                       0x00010001,
		"\x00\x00\x00":               0x00030001,
		"\x01":                       0x00020002,
		"\xff":                       0x01000100,
		"\xff\xff":                   0x02FF01FF,
		"a":                          0x00620062,
		"ab":                         0x012600C4,
		"ba":                         0x012700C4,
		"abc":                        0x024D0127,
		"message digest":             0x29750586,
		"abcdefghijklmnopqrstuvwxyz": 0x90860B20,
	} {
		adler(t, text, want, []byte(text))
	}
}

func TestAdlerOfNothing(t *testing.T) {
	adler(t, "no part", 1)
	adler(t, "no list", 1, [][]byte(nil)...)
	adler(t, "an empty list", 1, [][]byte{}...)
	adler(t, "nil", 1, nil)
	adler(t, "empty", 1, []byte{})
	adler(t, "nils and empties", 1, nil, []byte{}, nil, make([]byte, 0, 9), []byte(""))
}

func TestAdlerOfEachByte(t *testing.T) {
	for c := range 256 {
		one := uint32(c) + 1
		adler(t, "a byte", one<<16|one, []byte{byte(c)})
		adler(t, "a byte twice", (one+one+uint32(c))<<16|(one+uint32(c)), []byte{byte(c)}, []byte{byte(c)})
	}
}

func TestAdlerOfParts(t *testing.T) {
	adler(t, "parts", 0x11E60398, []byte("Wiki"), []byte("pedia"))
	adler(t, "parts", 0x11E60398, nil, []byte("W"), []byte{}, []byte("ikipedi"), nil, nil, []byte("a"), []byte{})
	adler(t, "parts", 0x024D0127, []byte("a"), []byte("b"), []byte("c"))
	adler(t, "parts turned round", slow(1, []byte("cba")), []byte("c"), []byte("b"), []byte("a"))
	same := []byte("ab")
	adler(t, "the same part again", slow(1, []byte("ababab")), same, same, same)
	long := mixed(20000)
	adler(t, "parts that share memory", slow(slow(1, long[:12000]), long[8000:]), long[:12000], long[8000:])
}

func TestAdlerOfEachCutOfAShortRow(t *testing.T) {
	b := []byte("\xff\x00Wikipedia\xfe\x00\xff")
	want := slow(1, b)
	for i := range len(b) + 1 {
		for j := i; j <= len(b); j++ {
			for k := j; k <= len(b); k++ {
				adler(t, "cut in four", want, b[:i], b[i:j], b[j:k], b[k:])
			}
		}
	}
}

func TestAdlerOfEachCutOfALongRow(t *testing.T) {
	for _, b := range [][]byte{mixed(12000), nines(12000)} {
		want := slow(1, b)
		for i := range len(b) + 1 {
			adler(t, "cut in two", want, b[:i], b[i:])
		}
	}
}

func TestAdlerOfEqualParts(t *testing.T) {
	b := append(mixed(70000), nines(70000)...)
	want := slow(1, b)
	for _, size := range []int{1, 2, 3, 16, 255, 256, 257, 4096, 5551, 5552, 5553, 5554, 11104, 32768, 65520, 65521, 65522, 65535, 65536, 140000} {
		adler(t, "equal parts", want, slices.Collect(slices.Chunk(b, size))...)
	}
}

// P3.1: the halves pass 65521.

func TestLowerHalfPasses(t *testing.T) {
	// 1 and 255 times 256 is 65281, and one byte more is all that it takes.
	for _, c := range []struct {
		last  byte
		lower uint32
	}{{238, 65519}, {239, 65520}, {240, 0}, {241, 1}, {255, 15}} {
		b := append(nines(256), c.last)
		if got := sums.Adler(b) & 65535; got != c.lower {
			t.Errorf("the lower half behind %d: %d, want %d", c.last, got, c.lower)
		}
		asks(t, "the lower half passes", 1, b, slow(1, b))
	}
}

func TestUpperHalfPasses(t *testing.T) {
	// From the lower half 1 on 22 bytes of 255 make the upper one 22 + 255 * 253 = 64537.
	for _, c := range []struct {
		start, upper uint32
	}{{982, 65519}, {983, 65520}, {984, 0}, {985, 1}, {65520, 64536}} {
		if got := sums.More(c.start<<16|1, nines(22)) >> 16; got != c.upper {
			t.Errorf("the upper half from %d on: %d, want %d", c.start, got, c.upper)
		}
	}
}

func TestGreatestBytes(t *testing.T) {
	all := nines(13000)
	want := uint32(1)
	for n := range len(all) {
		adler(t, "bytes of 255", want, all[:n])
		want = slow(want, all[n:n+1])
	}
}

func TestManyAlike(t *testing.T) {
	for _, c := range []byte{0, 1, 97, 128, 254, 255} {
		for _, n := range []int{0, 1, 2, 5552, 5553, 5554, 65520, 65521, 65522, 131042, 1000000} {
			b := bytes.Repeat([]byte{c}, n)
			adler(t, "bytes alike", alike(1, c, n), b)
			for _, s := range []uint32{0, 65520, 65520 << 16, 65520<<16 | 65520, math.MaxUint32} {
				asks(t, "bytes alike", s, b, alike(s, c, n))
			}
		}
	}
}

// Halves as great as they may be, and bytes as great: any that is not taken modulo 65521 soon enough wraps round.

func TestGreatestHalvesAndBytes(t *testing.T) {
	all := nines(40000)
	for _, s := range []uint32{65520<<16 | 65520, 65520, 65520 << 16, 65521<<16 | 65521, math.MaxUint32} {
		want := s%65536%65521 | s>>16%65521<<16
		for n := range 13000 {
			asks(t, "the greatest", s, all[:n], want)
			want = slow(want, all[n:n+1])
		}
		for n := 13000; n <= len(all); n += 499 {
			asks(t, "the greatest", s, all[:n], alike(s, 255, n))
		}
	}
}

// P3.1: More.

func TestMore(t *testing.T) {
	for _, c := range []struct {
		s    uint32
		text string
		want uint32
	}{
		{1, "", 0x00000001},
		{1, "Wikipedia", 0x11E60398},
		{0x00620062, "bc", 0x024D0127},
		{0x024D0127, "", 0x024D0127},
		{0, "", 0},
		{0, "\x00", 0},
		{0, "a", 0x00610061},
		{0, "ab", 0x012400C3},
		{0x00010000, "\x00\x00", 0x00010000},
		{0x00000001, "\x00\x00", 0x00020001},
		{0xFFF0FFF0, "\x00", 0xFFEFFFF0},
		{0xFFF0FFF0, "\x01", 0xFFF00000},
		{0xFFF0FFF0, "\x02", 0x00000001},
		{0xFFF0FFF0, "\xff", 0x00FD00FE},
		{0xFFF1FFF1, "\xff", 0x00FF00FF},
		{0xFFFFFFFF, "\x00", 0x001C000E},
		{0xFFFFFFFF, "\xff", 0x011B010D},
	} {
		asks(t, c.text, c.s, []byte(c.text), c.want)
	}
}

func TestMoreOfNothing(t *testing.T) {
	for s, want := range map[uint32]uint32{
		0:              0,
		1:              1,
		0x0000FFF0:     0x0000FFF0,
		0x0000FFF1:     0,
		0x0000FFF2:     1,
		0x0000FFFF:     14,
		0x00010000:     0x00010000,
		0xFFF00000:     0xFFF00000,
		0xFFF0FFF0:     0xFFF0FFF0,
		0xFFF0FFF1:     0xFFF00000,
		0xFFF10000:     0,
		0xFFF1FFF0:     0x0000FFF0,
		0xFFF1FFF1:     0,
		0xFFF20005:     0x00010005,
		0xFFFF0000:     0x000E0000,
		0xFFFFFFFE:     0x000E000D,
		math.MaxUint32: 0x000E000E,
		0x11E60398:     0x11E60398,
	} {
		for _, b := range [][]byte{nil, {}, make([]byte, 0, 3)} {
			asks(t, "nothing behind", s, b, want)
		}
	}
	for half := range uint32(65536) {
		asks(t, "nothing behind a lower half", half, nil, half%65521)
		asks(t, "nothing behind an upper half", half<<16, nil, half%65521<<16)
	}
}

func TestMoreFromEachStart(t *testing.T) {
	rows := [][]byte{{0}, {1}, {2}, {15}, {255}, {0, 0, 0}, {255, 255}, []byte("Wikipedia"), nines(257), nines(258), nines(5552), nines(5553), mixed(300), mixed(6000), make([]byte, 6000)}
	for _, s := range starts() {
		for _, b := range rows {
			asks(t, "from a start on", s, b, slow(s, b))
		}
	}
}

func TestMoreIsTheSumOfBoth(t *testing.T) {
	for _, b := range [][]byte{mixed(12000), nines(12000)} {
		want := sums.Adler(b)
		for i := range len(b) + 1 {
			asks(t, "the sum of both", sums.Adler(b[:i]), b[i:], want)
		}
	}
	for _, s := range starts() {
		b := append(mixed(700), nines(700)...)
		want := sums.More(s, b)
		for i := 0; i <= len(b); i += 7 {
			asks(t, "the sum of both", sums.More(s, b[:i]), b[i:], want)
		}
	}
}

func TestMoreTakesHalvesModulo(t *testing.T) {
	b := mixed(50)
	for half := range uint32(15) {
		asks(t, "a lower half beyond", 65521+half, b, sums.More(half, b))
		asks(t, "an upper half beyond", (65521+half)<<16, b, sums.More(half<<16, b))
		asks(t, "halves beyond", (65521+half)<<16|(65535-half), b, sums.More(half<<16|(14-half), b))
	}
}

// Long rows, held against the library's sum as well.

func TestMillionBytes(t *testing.T) {
	for name, b := range map[string][]byte{"mixed": mixed(1000000), "255": nines(1000000), "0": make([]byte, 1000000)} {
		want := adler32.Checksum(b)
		if want != slow(1, b) {
			t.Fatalf("%s: the tests' own sums differ", name)
		}
		adler(t, name+", one part", want, b)
		for _, size := range []int{1, 7, 1000, 5552, 65521, 999999} {
			adler(t, name+", parts", want, slices.Collect(slices.Chunk(b, size))...)
		}
		asks(t, name, 1, b, want)
		for _, s := range []uint32{0, 0xFFF0FFF0, 0xFFF1FFF1, math.MaxUint32} {
			asks(t, name, s, b, slow(s, b))
		}
		s := uint32(1)
		for i := 0; i < len(b); i += 3331 {
			s = sums.More(s, b[i:min(i+3331, len(b))])
		}
		if s != want {
			t.Errorf("%s, by More again and again: %08X, want %08X", name, s, want)
		}
	}
}

func TestEachLength(t *testing.T) {
	b := mixed(12000)
	for n := range len(b) {
		adler(t, "a length", adler32.Checksum(b[:n]), b[:n])
	}
}

// R4: what is handed in is not changed, and not kept.

func TestLeavesWhatIsHandedIn(t *testing.T) {
	b := append(mixed(6000), nines(6000)...)
	was := slices.Clone(b)
	// Behind 6000 bytes comes the spare room, which shows if it is written to.
	want := slow(1, was[:6000])
	adler(t, "with spare room", want, b[:6000])
	asks(t, "with spare room", 1, b[:6000], want)
	if !bytes.Equal(b, was) {
		t.Error("bytes that were handed in are changed")
	}
	first, second, third := []byte("Wiki"), []byte("pedia"), []byte("spare")
	parts := [][]byte{first, nil, second, third}
	adler(t, "a list with spare room", 0x11E60398, parts[:3]...)
	if len(parts) != 4 || &parts[0][0] != &first[0] || parts[1] != nil || &parts[2][0] != &second[0] || &parts[3][0] != &third[0] {
		t.Error("a list that was handed in is changed")
	}
	for i, text := range []string{"Wiki", "", "pedia", "spare"} {
		if string(parts[i]) != text {
			t.Errorf("part %d is changed: %q, was %q", i, parts[i], text)
		}
	}
}

func TestKeepsNothing(t *testing.T) {
	b := []byte("Wikipedia")
	s := sums.Adler(b[:4], b[4:])
	clear(b)
	asks(t, "behind what is changed since", s, nil, 0x11E60398)
	adler(t, "of what it was", 0x11E60398, []byte("Wikipedia"))
	adler(t, "of what it is", 0x00090001, b)
}

// R5: the same is answered again, whatever was asked between.

func TestAskedAgain(t *testing.T) {
	ask := func() []uint32 {
		l := []uint32{sums.Adler(), sums.Adler(nil), sums.Adler(mixed(9), nines(9))}
		for _, s := range starts() {
			l = append(l, sums.More(s, nil), sums.More(s, mixed(99)))
		}
		return l
	}
	if !slices.Equal(ask(), ask()) {
		t.Error("asked again, it is answered otherwise")
	}
}
