package inflate_test

import (
	"bytes"
	"fmt"
	"slices"
	"testing"

	"pressmark/api"
	"pressmark/inflate"
)

// row is bits in the order in which they are read, each a byte 0 or 1. Its methods write behind them, and answer it.
type row struct{ bits []byte }

// low writes the lowest width bits of n, the lowest first.
func (r *row) low(n, width int) *row {
	for i := range width {
		r.bits = append(r.bits, byte(n>>i&1))
	}
	return r
}

// text writes bits that stand as signs.
func (r *row) text(signs string) *row {
	for _, c := range []byte(signs) {
		r.bits = append(r.bits, c-'0')
	}
	return r
}

// align fills a byte that was begun.
func (r *row) align(fill byte) *row {
	for len(r.bits)%8 > 0 {
		r.bits = append(r.bits, fill)
	}
	return r
}

// bytes is all bits, the last byte filled.
func (r *row) bytes(fill byte) []byte {
	all := row{slices.Clone(r.bits)}
	all.align(fill)
	b := make([]byte, len(all.bits)/8)
	for i, bit := range all.bits {
		b[i/8] |= bit << (i % 8)
	}
	return b
}

// whole writes bytes.
func (r *row) whole(b []byte) *row {
	for _, c := range b {
		r.low(int(c), 8)
	}
	return r
}

// begin writes what each block begins with.
func (r *row) begin(last, kind int) *row { return r.low(last, 1).low(kind, 2) }

// stored writes a block of kind 0.
func (r *row) stored(last int, b []byte) *row {
	return r.begin(last, 0).align(0).low(len(b), 16).low(^len(b), 16).whole(b)
}

// tongue is the codes that a block is written in.
type tongue struct{ symbols, distances []string }

// codesOf are the codes of lengths, as RFC 1951, 3.2.2, makes them.
func codesOf(lengths []int) []string {
	var count, next [17]int
	for _, length := range lengths {
		count[length]++
	}
	count[0] = 0
	for code, length := 0, 1; length <= 15; length++ {
		code = (code + count[length-1]) << 1
		next[length] = code
	}
	codes := make([]string, len(lengths))
	for s, length := range lengths {
		if length > 0 {
			codes[s] = fmt.Sprintf("%0*b", length, next[length])
			next[length]++
		}
	}
	return codes
}

// fixed are the codes of kind 1, as RFC 1951, 3.2.6, tells them.
func fixed() tongue {
	g := tongue{make([]string, 288), make([]string, 32)}
	for s := range g.symbols {
		switch {
		case s <= 143:
			g.symbols[s] = fmt.Sprintf("%08b", 0b00110000+s)
		case s <= 255:
			g.symbols[s] = fmt.Sprintf("%09b", 0b110010000+s-144)
		case s <= 279:
			g.symbols[s] = fmt.Sprintf("%07b", s-256)
		default:
			g.symbols[s] = fmt.Sprintf("%08b", 0b11000000+s-280)
		}
	}
	for s := range g.distances {
		g.distances[s] = fmt.Sprintf("%05b", s)
	}
	return g
}

// span is a row of RFC 1951's tables in 3.2.5: how many bits stand behind a symbol, and the least that it means.
type span struct{ width, least int }

// lengths are those of the symbols from 257 on.
func lengths() []span {
	return []span{
		{0, 3}, {0, 4}, {0, 5}, {0, 6}, {0, 7}, {0, 8}, {0, 9}, {0, 10}, {1, 11}, {1, 13},
		{1, 15}, {1, 17}, {2, 19}, {2, 23}, {2, 27}, {2, 31}, {3, 35}, {3, 43}, {3, 51}, {3, 59},
		{4, 67}, {4, 83}, {4, 99}, {4, 115}, {5, 131}, {5, 163}, {5, 195}, {5, 227}, {0, 258},
	}
}

// distances are those of the distances' symbols.
func distances() []span {
	return []span{
		{0, 1}, {0, 2}, {0, 3}, {0, 4}, {1, 5}, {1, 7}, {2, 9}, {2, 13}, {3, 17}, {3, 25},
		{4, 33}, {4, 49}, {5, 65}, {5, 97}, {6, 129}, {6, 193}, {7, 257}, {7, 385}, {8, 513}, {8, 769},
		{9, 1025}, {9, 1537}, {10, 2049}, {10, 3073}, {11, 4097}, {11, 6145}, {12, 8193}, {12, 12289}, {13, 16385}, {13, 24577},
	}
}

// find is the symbol of n among spans, of several the last, and the bits behind it.
func find(l []span, n int) (int, int) {
	for s, p := range slices.Backward(l) {
		if n >= p.least && n < p.least+1<<p.width {
			return s, n - p.least
		}
	}
	panic("no such number")
}

// letters writes bytes as symbols.
func (r *row) letters(g tongue, text string) *row {
	for _, c := range []byte(text) {
		r.text(g.symbols[c])
	}
	return r
}

// end writes the end of a block.
func (r *row) end(g tongue) *row { return r.text(g.symbols[256]) }

// far writes a distance.
func (r *row) far(g tongue, n int) *row {
	s, more := find(distances(), n)
	return r.text(g.distances[s]).low(more, distances()[s].width)
}

// again writes a length and a distance.
func (r *row) again(g tongue, n, far int) *row {
	s, more := find(lengths(), n)
	return r.text(g.symbols[257+s]).low(more, lengths()[s].width).far(g, far)
}

// piece is a symbol of the code of lengths, and what the bits behind it count.
type piece struct{ symbol, more int }

// pieces are lengths, each by its own symbol.
func pieces(lengths ...int) []piece {
	var l []piece
	for _, n := range lengths {
		l = append(l, piece{n, 0})
	}
	return l
}

// noughts are pieces of n noughts, by 18, and 0 where these are too few for it.
func noughts(n int) []piece {
	var l []piece
	for n >= 11 {
		k := min(n, 138)
		l = append(l, piece{18, k - 11})
		n -= k
	}
	return append(l, pieces(make([]int, n)...)...)
}

// packed are the pieces of lengths, rows of noughts by 18.
func packed(lengths ...[]int) []piece {
	var l []piece
	blank := 0
	for _, n := range slices.Concat(lengths...) {
		if n == 0 {
			blank++
			continue
		}
		l = slices.Concat(l, noughts(blank), pieces(n))
		blank = 0
	}
	return append(l, noughts(blank)...)
}

// order is that in which the lengths of the code of lengths are told.
func order() []int { return []int{16, 17, 18, 0, 8, 7, 9, 6, 10, 5, 11, 4, 12, 3, 13, 2, 14, 1, 15} }

// balanced are the lengths of a full code of n symbols (of one: not full).
func balanced(n int) []int {
	if n == 1 {
		return []int{1}
	}
	depth := 1
	for 1<<depth < n {
		depth++
	}
	l := make([]int, n)
	for i := range l {
		l[i] = depth
		if i < 1<<depth-n {
			l[i]--
		}
	}
	return l
}

// codeFor is the lengths of a code of lengths in which those pieces can be written.
func codeFor(l []piece) []int {
	var used []int
	for _, p := range l {
		used = append(used, p.symbol)
	}
	slices.Sort(used)
	used = slices.Compact(used)
	lengths := make([]int, 19)
	for i, length := range balanced(len(used)) {
		lengths[used[i]] = length
	}
	return lengths
}

// counts writes how many lengths there are, the code of lengths by as many as n says.
func (r *row) counts(symbols, distances, n int, code []int) *row {
	r.low(symbols-257, 5).low(distances-1, 5).low(n-4, 4)
	for _, s := range order()[:n] {
		r.low(code[s], 3)
	}
	return r
}

// pieces writes pieces by a code of lengths.
func (r *row) pieces(code []int, l []piece) *row {
	codes := codesOf(code)
	for _, p := range l {
		r.text(codes[p.symbol])
		switch p.symbol {
		case 16:
			r.low(p.more, 2)
		case 17:
			r.low(p.more, 3)
		case 18:
			r.low(p.more, 7)
		}
	}
	return r
}

// tell writes the beginning of a block of kind 2.
func (r *row) tell(last, symbols, distances int, l []piece) *row {
	code := codeFor(l)
	return r.begin(last, 2).counts(symbols, distances, 19, code).pieces(code, l)
}

// tongueOf is the codes that lengths tell.
func tongueOf(symbols, distances []int) tongue {
	return tongue{codesOf(symbols), codesOf(distances)}
}

// at are lengths, of n symbols, 0 but at some: symbol, length, symbol, length, ..
func at(n int, pairs ...int) []int {
	l := make([]int, n)
	for p := range slices.Chunk(pairs, 2) {
		l[p[0]] = p[1]
	}
	return l
}

// ahead is blocks that make nothing, and leave so many bits of a byte begun.
func ahead(shift int) *row {
	r := &row{}
	if shift%2 == 1 {
		// A block of 93 bits, the end alone.
		l := packed(at(258, 256, 1))
		code := codeFor(l)
		r.begin(0, 2).counts(257, 1, 18, code).pieces(code, l).text("0")
	}
	for range 4 {
		if len(r.bits)%8 != shift {
			r.begin(0, 1).text("0000000")
		}
	}
	return r
}

// answer is what Blocks or Zlib answers.
type answer struct {
	came string
	n    int
	e    api.Errno
}

// spared is b with room behind it that shows whether it is written to.
func spared(b []byte) []byte {
	l := append(bytes.Clone(b), 0xEE, 0xEE, 0xEE, 0xEE, 0xEE)
	return l[:len(b)]
}

// untouched tells if given, made by spared, is not what it was.
func untouched(t *testing.T, what string, given, b []byte) {
	t.Helper()
	if !bytes.Equal(given, b) || !bytes.Equal(given[:len(b)+5][len(b):], []byte{0xEE, 0xEE, 0xEE, 0xEE, 0xEE}) {
		t.Errorf("%s: what was handed in is changed", what)
	}
}

// short is a text of which no more is shown than tells where it differs.
func short(s string) string {
	if len(s) > 60 {
		return fmt.Sprintf("%d bytes, %q ..", len(s), s[:60])
	}
	return fmt.Sprintf("%q", s)
}

// holds tells if got is not want.
func holds(t *testing.T, what string, got, want answer) {
	t.Helper()
	if got != want {
		t.Errorf("%s: %s, %d, %v, want %s, %d, %v", what, short(got.came), got.n, got.e, short(want.came), want.n, want.e)
	}
}

// blocks asks Blocks, and that it leaves what it is handed.
func blocks(t *testing.T, what string, b []byte, most int) answer {
	t.Helper()
	given := spared(b)
	came, n, e := inflate.Blocks(given, most)
	untouched(t, what, given, b)
	return answer{string(came), n, e}
}

// cuts are the numbers of bytes that are asked of n, all of them if they are few.
func cuts(n int) []int {
	var l []int
	for i := 0; i <= n; i++ {
		if i < 260 || n-i < 140 || i%4099 == 0 {
			l = append(l, i)
		}
	}
	return l
}

// plenty is more bytes than any test makes.
const plenty = 1 << 20

// tells asks that Blocks answers e (and came, if that is OK) as soon as the last bit of what build writes is there, whatever stands behind it, and ErrShort at each cut ahead of it: wherever in a byte it stands.
func tells(t *testing.T, what string, most int, came string, e api.Errno, build func(r *row)) {
	t.Helper()
	for shift := range 8 {
		r := ahead(shift)
		if len(r.bits)%8 != shift {
			t.Fatalf("%d bits stand ahead, want %d and whole bytes", len(r.bits), shift)
		}
		build(r)
		full := (len(r.bits) + 7) / 8
		for fill := range byte(2) {
			b := append(r.bytes(fill), bytes.Repeat([]byte{255 * fill}, 5)...)
			for _, cut := range cuts(len(b)) {
				want := answer{e: api.ErrShort}
				if cut >= full {
					want.e = e
				}
				if want.e == api.OK {
					want.came, want.n = came, full
				}
				got := blocks(t, what, b[:cut], most)
				if got != want {
					holds(t, fmt.Sprintf("%s (%d bits ahead, cut at %d of %d)", what, len(ahead(shift).bits), cut, full), got, want)
					return
				}
			}
		}
	}
}
