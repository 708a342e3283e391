package deflate_test

import (
	"bytes"
	"encoding/binary"
	"fmt"
	"hash/adler32"
	"math/rand"
	"slices"
	"testing"
)

// slow is bits, each a byte 0 or 1, in the order in which they are read. Its methods write behind them by the chapter's words, and answer it.
type slow struct{ bits []byte }

// low writes the lowest width bits of n, the lowest first.
func (s *slow) low(n, width int) *slow {
	for i := range width {
		s.bits = append(s.bits, byte(n>>i&1))
	}
	return s
}

// text writes bits that stand as signs.
func (s *slow) text(signs string) *slow {
	for _, c := range []byte(signs) {
		s.bits = append(s.bits, c-'0')
	}
	return s
}

// align writes noughts up to a whole byte.
func (s *slow) align() *slow {
	for len(s.bits)%8 > 0 {
		s.bits = append(s.bits, 0)
	}
	return s
}

// bytes is all bits, the last byte filled with noughts.
func (s *slow) bytes() []byte {
	b := make([]byte, (len(s.bits)+7)/8)
	for i, bit := range s.bits {
		b[i/8] |= bit << (i % 8)
	}
	return b
}

// stored writes a block of kind 0.
func (s *slow) stored(last int, b []byte) *slow {
	s.low(last, 1).low(0, 2).align().low(len(b), 16).low(65535-len(b), 16)
	for _, c := range b {
		s.low(int(c), 8)
	}
	return s
}

// begin writes what the block of kind 1 begins with.
func (s *slow) begin() *slow { return s.low(1, 1).low(1, 2) }

// code is that of a symbol, as RFC 1951, 3.2.6, tells it.
func code(symbol int) string {
	switch {
	case symbol <= 143:
		return fmt.Sprintf("%08b", 0b00110000+symbol)
	case symbol <= 255:
		return fmt.Sprintf("%09b", 0b110010000+symbol-144)
	case symbol <= 279:
		return fmt.Sprintf("%07b", symbol-256)
	}
	return fmt.Sprintf("%08b", 0b11000000+symbol-280)
}

// span is a row of RFC 1951's tables in 3.2.5: how many bits stand behind a symbol, and the least and the greatest that it means.
type span struct{ width, least, most int }

// lengths are those of the symbols from 257 on.
func lengths() []span {
	return []span{
		{0, 3, 3}, {0, 4, 4}, {0, 5, 5}, {0, 6, 6}, {0, 7, 7}, {0, 8, 8}, {0, 9, 9}, {0, 10, 10}, {1, 11, 12}, {1, 13, 14},
		{1, 15, 16}, {1, 17, 18}, {2, 19, 22}, {2, 23, 26}, {2, 27, 30}, {2, 31, 34}, {3, 35, 42}, {3, 43, 50}, {3, 51, 58}, {3, 59, 66},
		{4, 67, 82}, {4, 83, 98}, {4, 99, 114}, {4, 115, 130}, {5, 131, 162}, {5, 163, 194}, {5, 195, 226}, {5, 227, 257}, {0, 258, 258},
	}
}

// distances are those of the distances' symbols, as far as 64.
func distances() []span {
	return []span{
		{0, 1, 1}, {0, 2, 2}, {0, 3, 3}, {0, 4, 4}, {1, 5, 6}, {1, 7, 8}, {2, 9, 12}, {2, 13, 16}, {3, 17, 24}, {3, 25, 32},
		{4, 33, 48}, {4, 49, 64},
	}
}

// find is the symbol of n among spans, and the bits behind it.
func find(l []span, n int) (symbol, more, width int) {
	for i, p := range l {
		if n >= p.least && n <= p.most {
			return i, n - p.least, p.width
		}
	}
	panic("no such number")
}

// letters writes bytes as symbols.
func (s *slow) letters(text string) *slow {
	for _, c := range []byte(text) {
		s.text(code(int(c)))
	}
	return s
}

// again writes a length and a distance.
func (s *slow) again(n, far int) *slow {
	symbol, more, width := find(lengths(), n)
	s.text(code(257+symbol)).low(more, width)
	symbol, more, width = find(distances(), far)
	return s.text(fmt.Sprintf("%05b", symbol)).low(more, width)
}

// end writes the block's end.
func (s *slow) end() *slow { return s.text("0000000") }

// slowStored is what Stored has to answer.
func slowStored(b []byte) []byte {
	s := &slow{}
	for len(b) > 65535 {
		s.stored(0, b[:65535])
		b = b[65535:]
	}
	return s.stored(1, b).bytes()
}

// stood tells whether n bytes at a place of b stood so far behind, too.
func stood(b []byte, at, n, far int) bool {
	return far <= at && n <= len(b)-at && bytes.Equal(b[at:at+n], b[at-far:at-far+n])
}

// slowRow is the longest row that may be written at a place of b, of several the nearest.
func slowRow(b []byte, at int) (n, far int, ok bool) {
	var near []int
	for far := 1; far <= 64; far++ {
		if stood(b, at, 3, far) {
			near = append(near, far)
		}
	}
	for n := 258; n >= 3 && len(near) > 0; n-- {
		for _, far := range near {
			if stood(b, at, n, far) {
				return n, far, true
			}
		}
	}
	return 0, 0, false
}

// slowFixed is what Fixed has to answer.
func slowFixed(b []byte) []byte {
	s := (&slow{}).begin()
	for at := 0; at < len(b); {
		n, far, ok := slowRow(b, at)
		if ok {
			s.again(n, far)
			at += n
		} else {
			s.letters(string(b[at : at+1]))
			at++
		}
	}
	return s.end().bytes()
}

// wrapped is blocks of b in their wrap.
func wrapped(blocks, b []byte) []byte {
	return binary.BigEndian.AppendUint32(slices.Concat([]byte{120, 1}, blocks), adler32.Checksum(b))
}

// mixed are n bytes of all kinds, the same ones each time.
func mixed(n int) []byte {
	b := make([]byte, n)
	rand.New(rand.NewSource(int64(n))).Read(b)
	return b
}

// rising are n bytes, each one more than the one ahead of it, from 0 on.
func rising(n int) []byte {
	b := make([]byte, n)
	for i := range b {
		b[i] = byte(i)
	}
	return b
}

// more is b, and behind it n bytes that stood so far behind, one by one.
func more(b []byte, n, far int) []byte {
	b = bytes.Clone(b)
	for range n {
		b = append(b, b[len(b)-far])
	}
	return b
}

// spared is b with room behind it that shows whether it is written to. It begins as b goes on if each byte comes again.
func spared(b []byte) []byte {
	l := bytes.Repeat(b, 2)
	l = append(l, 0xEE, 0xEE, 0xEE, 0xEE, 0xEE)
	return l[:len(b)]
}

// untouched tells if given, made by spared, is not what it was.
func untouched(t *testing.T, what string, given, b []byte) {
	t.Helper()
	if !bytes.Equal(given[:2*len(b)+5], slices.Concat(b, b, []byte{0xEE, 0xEE, 0xEE, 0xEE, 0xEE})) {
		t.Errorf("%s: what was handed in is changed", what)
	}
}

// short is bytes of which no more is shown than tells where they differ.
func short(b []byte) string {
	if len(b) > 60 {
		return fmt.Sprintf("%d bytes, % x ..", len(b), b[:60])
	}
	return fmt.Sprintf("% x", b)
}

// holds tells if got is not want.
func holds(t *testing.T, what string, got, want []byte) {
	t.Helper()
	if !bytes.Equal(got, want) {
		t.Errorf("%s: %s, want %s", what, short(got), short(want))
	}
}

// writes asks a function what it makes of b, that it leaves b as it is, and that what it answers is new memory.
func writes(t *testing.T, what string, f func([]byte) []byte, b, want []byte) {
	t.Helper()
	given := spared(b)
	got := f(given)
	untouched(t, what, given, b)
	holds(t, what, got, want)
	other := f(given)
	all := got[:cap(got)]
	for i := range all {
		all[i] ^= 0xFF
	}
	untouched(t, what+", the answer changed", given, b)
	holds(t, what+", another answer changed", other, want)
	holds(t, what+", asked again", f(given), want)
}

// kinds are bytes of many kinds, none of more than some 70000.
func kinds() map[string][]byte {
	chance := rand.New(rand.NewSource(1951))
	two := make([]byte, 9000)
	few := make([]byte, 9000)
	gaps := bytes.Repeat([]byte{'a'}, 9000)
	for i := range two {
		two[i] = byte(chance.Intn(2))
		few[i] = "etaoin shrdlu"[chance.Intn(13)]
		if chance.Intn(50) == 0 {
			gaps[i] = byte(chance.Intn(256))
		}
	}
	rows := []byte("begin")
	for len(rows) < 9000 {
		rows = more(rows, 1+chance.Intn(300), 1+chance.Intn(min(len(rows), 80)))
		rows = append(rows, byte(chance.Intn(256)))
	}
	return map[string][]byte{
		"none":       nil,
		"a nought":   {0},
		"all 256":    rising(256),
		"all, twice": rising(512),
		"by chance":  mixed(70000),
		"noughts":    make([]byte, 66000),
		"of 255":     bytes.Repeat([]byte{255}, 3000),
		"below 144":  bytes.Map(func(r rune) rune { return r % 128 }, mixed(3000)),
		"two kinds":  two,
		"few kinds":  few,
		"gaps":       gaps,
		"rows":       rows,
		"in turns":   bytes.Repeat([]byte{0, 255, 1}, 3000),
		"period 64":  bytes.Repeat(mixed(64), 50),
		"period 65":  bytes.Repeat(mixed(65), 50),
		"words":      bytes.Repeat([]byte("BT /F1 12 Tf 72 720 Td (words) Tj ET\n"), 200),
		"row 10 0":   bytes.Repeat([]byte("0000000016 00000 n \n"), 300),
	}
}
