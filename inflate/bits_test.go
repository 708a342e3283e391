package inflate_test

import (
	"bytes"
	"math"
	"math/rand"
	"slices"
	"testing"

	"pressmark/inflate"
)

// some are bytes in which no row of bits comes again soon.
func some() []byte { return []byte{0xB5, 0x01, 0x80, 0x5E, 0xFF, 0x00, 0x37, 0xCA} }

// bitsOf are the bits of b, of each byte the lowest first.
func bitsOf(b []byte) []int {
	var l []int
	for _, c := range b {
		for i := range 8 {
			l = append(l, int(c)>>i&1)
		}
	}
	return l
}

// number is bits as a number, the first the lowest.
func number(bits []int) int {
	n := 0
	for i, bit := range bits {
		n += bit << i
	}
	return n
}

// after is a reader of b of which n bits are read, one by one.
func after(b []byte, n int) *inflate.Bits {
	r := inflate.Open(b)
	for range n {
		r.Bit()
	}
	return r
}

// stands asks where the cursor is: of so many bits read, at the first byte that was not begun.
func stands(t *testing.T, what string, r *inflate.Bits, b []byte, bits int) {
	t.Helper()
	pos := (bits + 7) / 8
	next := -1
	if pos < len(b) {
		next = int(b[pos])
	}
	last := -1
	if pos > 0 {
		last = int(b[pos-1])
	}
	if r.Pos() != pos || r.Len() != len(b) || r.Left() != len(b)-pos || r.Peek(0) != next || r.Peek(-1) != last {
		t.Errorf("%s: Pos %d, Len %d, Left %d, Peek %d and %d, want %d, %d, %d, %d and %d", what, r.Pos(), r.Len(), r.Left(), r.Peek(0), r.Peek(-1), pos, len(b), len(b)-pos, next, last)
	}
}

// takes asks Take.
func takes(t *testing.T, what string, r *inflate.Bits, n, want int) {
	t.Helper()
	if got := r.Take(n); got != want {
		t.Errorf("%s: Take(%d): %d, want %d", what, n, got, want)
	}
}

// rests asks that just those bits are still to be read.
func rests(t *testing.T, what string, r *inflate.Bits, want []int) {
	t.Helper()
	var got []int
	for bit := r.Bit(); bit >= 0 && len(got) <= len(want); bit = r.Bit() {
		got = append(got, bit)
	}
	if !slices.Equal(got, want) {
		t.Errorf("%s: the bits %v follow, want %v", what, got, want)
	}
}

// P4.1: Bit.

func TestBit(t *testing.T) {
	for _, b := range [][]byte{nil, {}, {0}, {1}, {0x80}, {0xFF}, {0xB5}, {0, 0}, {0x01, 0x80}, {0xFF, 0xFF, 0xFF}, some()} {
		given := spared(b)
		r := inflate.Open(given)
		bits := bitsOf(b)
		for i, want := range bits {
			stands(t, "ahead of Bit", r, b, i)
			if bit := r.Bit(); bit != want {
				t.Errorf("% x: bit %d: %d, want %d", b, i, bit, want)
			}
		}
		for range 3 {
			if bit := r.Bit(); bit != -1 {
				t.Errorf("% x: Bit at the end: %d, want -1", b, bit)
			}
			stands(t, "Bit at the end", r, b, len(bits))
		}
		untouched(t, "Bit", given, b)
	}
}

// P4.1: Take.

func TestTakeOfEachNumberFromEachPlace(t *testing.T) {
	b := some()
	bits := bitsOf(b)
	for from := range len(bits) + 1 {
		for n := range 17 {
			r := after(b, from)
			if from+n > len(bits) {
				takes(t, "more than is left", r, n, -1)
				stands(t, "more than is left", r, b, from)
				rests(t, "more than is left", r, bits[from:])
				continue
			}
			takes(t, "a row of bits", r, n, number(bits[from:from+n]))
			stands(t, "a row of bits", r, b, from+n)
			rests(t, "a row of bits", r, bits[from+n:])
		}
	}
}

func TestTakeOnceMoreAtTheEnd(t *testing.T) {
	// Of one bit more than is left nothing is taken: what is left comes still.
	for size := range 4 {
		b := some()[:size]
		bits := bitsOf(b)
		for from := range len(bits) + 1 {
			left := len(bits) - from
			if left >= 16 {
				continue
			}
			r := after(b, from)
			takes(t, "one bit more", r, left+1, -1)
			takes(t, "16 bits", r, 16, -1)
			stands(t, "one bit more", r, b, from)
			takes(t, "what is left", r, left, number(bits[from:]))
			takes(t, "at the end", r, 1, -1)
			takes(t, "at the end", r, 0, 0)
			stands(t, "at the end", r, b, len(bits))
		}
	}
}

func TestTakeOfOtherNumbers(t *testing.T) {
	b := some()
	bits := bitsOf(b)
	for _, n := range []int{17, 18, 24, 31, 32, 33, 63, 64, 65, 1000, math.MaxInt32, math.MaxInt, -1, -2, -8, -16, -64, math.MinInt32, math.MinInt} {
		for from := range len(bits) + 1 {
			r := after(b, from)
			takes(t, "another number", r, n, -1)
			stands(t, "another number", r, b, from)
			rests(t, "another number", r, bits[from:])
		}
		takes(t, "another number of no byte", inflate.Open(nil), n, -1)
	}
}

func TestTakeOfNone(t *testing.T) {
	// It begins no byte.
	r := inflate.Open(some())
	takes(t, "at the beginning", r, 0, 0)
	stands(t, "at the beginning", r, some(), 0)
	takes(t, "a byte", r, 8, 0xB5)
	takes(t, "behind a byte", r, 0, 0)
	stands(t, "behind a byte", r, some(), 8)
	takes(t, "of no byte", inflate.Open(nil), 0, 0)
	takes(t, "of no byte", inflate.Open(nil), 1, -1)
}

func TestTakeOfAll(t *testing.T) {
	// The highest bit and the lowest, of 16 bits that lie in two bytes and in three.
	for from := range 9 {
		r := after([]byte{0xFF, 0xFF, 0xFF}, from)
		takes(t, "ones", r, 16, 0xFFFF)
		r = after([]byte{0, 0, 0}, from)
		takes(t, "noughts", r, 16, 0)
	}
	takes(t, "two bytes", inflate.Open([]byte{0x34, 0x12}), 16, 0x1234)
	takes(t, "three bytes", after([]byte{0x40, 0x23, 0x01}, 4), 16, 0x1234)
}

func TestTakeLooksAtNoSpareRoom(t *testing.T) {
	r := inflate.Open(spared([]byte{0xAA}))
	takes(t, "spare room", r, 9, -1)
	takes(t, "a byte", r, 8, 0xAA)
	takes(t, "spare room", r, 1, -1)
}

// P4.1: Align.

func TestAlign(t *testing.T) {
	b := some()
	bits := bitsOf(b)
	for from := range len(bits) + 1 {
		r := after(b, from)
		whole := (from + 7) / 8 * 8
		for range 3 {
			r.Align()
			stands(t, "Align", r, b, whole)
		}
		rests(t, "Align", r, bits[whole:])
		r.Align()
		stands(t, "Align at the end", r, b, len(bits))
		takes(t, "Align at the end", r, 1, -1)
		takes(t, "Align at the end", r, 0, 0)
	}
}

func TestAlignBehindTake(t *testing.T) {
	b := some()
	bits := bitsOf(b)
	for from := range 9 {
		for n := range 17 {
			r := after(b, from)
			r.Take(n)
			r.Align()
			whole := (from + n + 7) / 8 * 8
			stands(t, "Align behind Take", r, b, whole)
			takes(t, "behind Align", r, 16, number(bits[whole:whole+16]))
		}
	}
}

func TestAlignOfNoByte(t *testing.T) {
	for _, b := range [][]byte{nil, {}} {
		r := inflate.Open(b)
		r.Align()
		stands(t, "Align of no byte", r, nil, 0)
		if r.Bit() != -1 || r.Next() != -1 {
			t.Error("Align of no byte: some")
		}
	}
}

func TestAlignBehindWhatIsRefused(t *testing.T) {
	// What is refused begins no byte, so there is nothing to leave out.
	b := []byte{0xB5}
	for _, n := range []int{9, 16, 17, -1} {
		r := inflate.Open(b)
		takes(t, "refused", r, n, -1)
		r.Align()
		takes(t, "Align behind what is refused", r, 8, 0xB5)
	}
}

// P4.1: the cursor's methods.

func TestPromotedGoByWholeBytes(t *testing.T) {
	b := some()
	for from := range 8*len(b) + 1 {
		pos := (from + 7) / 8
		tail := b[pos:]
		r := after(b, from)
		next := -1
		if len(tail) > 0 {
			next = int(tail[0])
		}
		if n := r.Next(); n != next {
			t.Errorf("Next behind %d bits: %d, want %d", from, n, next)
		}
		if len(tail) < 2 {
			continue
		}
		if r = after(b, from); !r.Match(string(tail[:2])) || r.Pos() != pos+2 {
			t.Errorf("Match behind %d bits: refused", from)
		}
		if n, ok := after(b, from).Word(2); !ok || n != int(tail[0])<<8+int(tail[1]) {
			t.Errorf("Word behind %d bits: %d, %v", from, n, ok)
		}
		if l, ok := after(b, from).Cursor.Take(2); !ok || !bytes.Equal(l, tail[:2]) {
			t.Errorf("the cursor's Take behind %d bits: %v, %v", from, l, ok)
		}
		if _, ok := after(b, from).Cursor.Take(len(tail) + 1); ok {
			t.Errorf("the cursor's Take behind %d bits: more than is left", from)
		}
	}
}

func TestPromotedFromAligned(t *testing.T) {
	// Where no byte is begun, bits go on where the cursor stands.
	b := some()
	bits := bitsOf(b)
	for from := range 9 {
		for to := range len(b) + 1 {
			r := after(b, from)
			r.Align()
			if !r.Seek(to) {
				t.Fatalf("Seek(%d): false", to)
			}
			rests(t, "Seek", r, bits[8*to:])
		}
	}
	r := inflate.Open(b)
	if r.Next() != 0xB5 || r.Take(4) != 1 || !r.Match("\x80") {
		t.Error("Next, Take, Match")
	}
	r.Align()
	if r.Take(8) != 0x5E || !r.Seek(1) || r.Take(16) != 0x8001 || r.Seek(9) || r.Next() != 0x5E {
		t.Error("Take, Seek, Take, Seek, Next")
	}
}

func TestRestOfByteStays(t *testing.T) {
	// Align alone leaves it out: the cursor's methods pass whole bytes and leave it be.
	r := inflate.Open([]byte{0b10110001, 0xFF, 0b00000101})
	takes(t, "begun", r, 5, 0b10001)
	if n := r.Next(); n != 0xFF {
		t.Errorf("Next: %d, want 255", n)
	}
	takes(t, "the rest, and the byte behind what was passed", r, 6, 0b101101)
	stands(t, "behind it", r, []byte{0b10110001, 0xFF, 0b00000101}, 19)
	r.Align()
	takes(t, "at the end", r, 1, -1)
}

// turns is a slow reader: the bits of a byte that was begun in a list of their own.
type turns struct {
	b    []byte
	pos  int
	rest []int
}

func (s *turns) take(n int) int {
	if n < 0 || n > 16 || n > len(s.rest)+8*(len(s.b)-s.pos) {
		return -1
	}
	for len(s.rest) < n {
		s.rest = append(s.rest, bitsOf(s.b[s.pos:s.pos+1])...)
		s.pos++
	}
	taken := number(s.rest[:n])
	s.rest = s.rest[n:]
	return taken
}

func (s *turns) next() int {
	if s.pos == len(s.b) {
		return -1
	}
	s.pos++
	return int(s.b[s.pos-1])
}

func TestWhateverTurns(t *testing.T) {
	chance := rand.New(rand.NewSource(4))
	for range 4000 {
		b := make([]byte, chance.Intn(9))
		chance.Read(b)
		r, s := inflate.Open(b), &turns{b: b}
		for range 30 {
			got, want, what := 0, 0, ""
			n := chance.Intn(22) - 3
			switch chance.Intn(8) {
			case 0, 1:
				what, got, want = "Bit", r.Bit(), s.take(1)
			case 2, 3, 4:
				what, got, want = "Take", r.Take(n), s.take(n)
			case 5:
				what, s.rest = "Align", nil
				r.Align()
			case 6:
				what, got, want = "Next", r.Next(), s.next()
			case 7:
				what = "Seek"
				if r.Seek(n) != (n >= 0 && n <= len(b)) {
					t.Fatalf("Seek(%d) of %d bytes", n, len(b))
				}
				if n >= 0 && n <= len(b) {
					s.pos = n
				}
			}
			if got != want || r.Pos() != s.pos || r.Left() != len(b)-s.pos {
				t.Fatalf("% x: %s (%d): %d, Pos %d, Left %d, want %d, %d, %d", b, what, n, got, r.Pos(), r.Left(), want, s.pos, len(b)-s.pos)
			}
		}
	}
}

// R7, R1: a nil Bits, and one without a cursor.

func TestNilBits(t *testing.T) {
	var r *inflate.Bits
	for range 2 {
		if bit := r.Bit(); bit != -1 {
			t.Errorf("Bit of nil: %d, want -1", bit)
		}
		for _, n := range []int{math.MinInt, -1, 0, 1, 2, 15, 16, 17, math.MaxInt} {
			takes(t, "of nil", r, n, -1)
		}
		r.Align()
	}
}

func TestBitsWithoutCursor(t *testing.T) {
	r := &inflate.Bits{}
	r.Align()
	if r.Bit() != -1 || r.Take(1) != -1 || r.Take(16) != -1 || r.Take(0) != 0 || r.Pos() != 0 || r.Next() != -1 {
		t.Error("a reader without a cursor has bits")
	}
}

// R4, R5: a reader looks at its bytes; two of them do not meet.

func TestReadersOfTheSameBytes(t *testing.T) {
	b := some()
	given := spared(b)
	r, s := inflate.Open(given), inflate.Open(given)
	r.Take(13)
	r.Align()
	rests(t, "another reader", s, bitsOf(b))
	rests(t, "a reader", r, bitsOf(b[2:]))
	untouched(t, "readers", given, b)
}
