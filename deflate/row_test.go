package deflate_test

import (
	"bytes"
	"fmt"
	"math"
	"math/rand"
	"testing"

	"pressmark/deflate"
)

// other are widths that a Put doesn't take.
func other() []int {
	return []int{0, 17, 18, 24, 31, 32, 33, 63, 64, 65, 1000, math.MaxInt32, math.MaxInt, -1, -2, -8, -16, -17, -64, math.MinInt32, math.MinInt}
}

// numbers are those whose lowest bits, and what stands above them, tell most.
func numbers() []int {
	return []int{0, 1, 2, 3, 5, 0x55, 0xAA, 0x7F, 0x80, 0xFF, 0x100, 0x1234, 0x5555, 0xAAAA, 0x7FFF, 0x8000, 0xFFFF, 0x10000, 0x12345, 0xFFFF0000, math.MaxInt32, math.MaxInt, -1, -2, -3, -128, -256, -0x1234, -65536, -65537, math.MinInt32, math.MinInt}
}

// ones puts n bits, all 1, one by one.
func ones(n int) (*deflate.Row, *slow) {
	r, s := &deflate.Row{}, &slow{}
	for range n {
		r.Put(1, 1)
		s.low(1, 1)
	}
	return r, s
}

// P5.1: what is empty.

func TestNothingPut(t *testing.T) {
	var r deflate.Row
	for range 3 {
		if b := r.Bytes(); len(b) != 0 {
			t.Errorf("nothing was put: % x", b)
		}
		r.Align()
	}
	for _, width := range other() {
		r.Put(-1, width)
	}
	holds(t, "nothing was put", r.Bytes(), nil)
	r.Put(1, 1)
	holds(t, "the first bit", r.Bytes(), []byte{1})
}

// P5.1: Put.

func TestOneBit(t *testing.T) {
	for bit := range 2 {
		var r deflate.Row
		r.Put(bit, 1)
		holds(t, "one bit", r.Bytes(), []byte{byte(bit)})
	}
}

func TestBitByBit(t *testing.T) {
	// The first is the lowest of the first byte.
	var r deflate.Row
	for i, want := range []string{"01", "01", "05", "0d", "0d", "0d", "4d", "cd", "cd 00", "cd 02"} {
		r.Put(int("1011001101"[i]-'0'), 1)
		if got := fmt.Sprintf("% x", r.Bytes()); got != want {
			t.Errorf("bit %d: %s, want %s", i, got, want)
		}
	}
}

func TestPutByHand(t *testing.T) {
	for what, c := range map[string]struct {
		put  [][2]int
		want []byte
	}{
		"8 bits":            {[][2]int{{0xB5, 8}}, []byte{0xB5}},
		"16 bits":           {[][2]int{{0x1234, 16}}, []byte{0x34, 0x12}},
		"7 and 1":           {[][2]int{{0x35, 7}, {1, 1}}, []byte{0xB5}},
		"1 and 7":           {[][2]int{{1, 1}, {0x5A, 7}}, []byte{0xB5}},
		"4 and 16":          {[][2]int{{0xA, 4}, {0x1234, 16}}, []byte{0x4A, 0x23, 0x01}},
		"1 and 15":          {[][2]int{{1, 1}, {0x4000, 15}}, []byte{0x01, 0x80}},
		"15 and 1":          {[][2]int{{0x4001, 15}, {1, 1}}, []byte{0x01, 0xC0}},
		"7 and 16":          {[][2]int{{0, 7}, {0xFFFF, 16}}, []byte{0x80, 0xFF, 0x7F}},
		"7, 16 and 1":       {[][2]int{{0, 7}, {0xFFFF, 16}, {1, 1}}, []byte{0x80, 0xFF, 0xFF}},
		"more bits":         {[][2]int{{0x1FF, 4}, {0x10, 4}}, []byte{0x0F}},
		"below 0":           {[][2]int{{-1, 3}, {-2, 3}, {-1, 1}}, []byte{0b1110111}},
		"the least and 1":   {[][2]int{{math.MinInt, 16}, {1, 1}}, []byte{0, 0, 1}},
		"the greatest":      {[][2]int{{math.MaxInt, 16}, {0, 1}}, []byte{0xFF, 0xFF, 0}},
		"a byte of a block": {[][2]int{{1, 1}, {0, 2}, {0, 5}, {1, 16}, {^1, 16}, {97, 8}}, []byte{1, 1, 0, 254, 255, 97}},
	} {
		var r deflate.Row
		for _, p := range c.put {
			r.Put(p[0], p[1])
		}
		holds(t, what, r.Bytes(), c.want)
	}
}

func TestPutOfEachWidthAtEachPlace(t *testing.T) {
	for from := range 18 {
		for width := 1; width <= 16; width++ {
			for _, n := range numbers() {
				r, s := ones(from)
				r.Put(n, width)
				holds(t, fmt.Sprintf("Put(%d, %d) behind %d bits", n, width, from), r.Bytes(), s.low(n, width).bytes())
				r.Put(1, 1)
				holds(t, fmt.Sprintf("Put(%d, %d) behind %d bits, a bit behind it", n, width, from), r.Bytes(), s.low(1, 1).bytes())
			}
		}
	}
}

func TestPutOfOtherWidths(t *testing.T) {
	for from := range 18 {
		for _, width := range other() {
			for _, n := range []int{0, -1, 0x5555, math.MinInt} {
				r, s := ones(from)
				for range 3 {
					r.Put(n, width)
				}
				what := fmt.Sprintf("Put(%d, %d) behind %d bits", n, width, from)
				holds(t, what, r.Bytes(), s.bytes())
				r.Put(0x2F, 7)
				holds(t, what+", bits behind it", r.Bytes(), s.low(0x2F, 7).bytes())
				r.Put(n, width)
				r.Align()
				holds(t, what+", aligned", r.Bytes(), s.align().bytes())
			}
		}
	}
}

// P5.1: Align.

func TestAlign(t *testing.T) {
	for from := range 34 {
		r, s := ones(from)
		s.align()
		for range 3 {
			r.Align()
			holds(t, fmt.Sprint("Align behind ", from), r.Bytes(), s.bytes())
		}
		r.Put(0x1A5, 9)
		holds(t, fmt.Sprintf("bits behind Align behind %d", from), r.Bytes(), s.low(0x1A5, 9).bytes())
		r.Align()
		r.Put(1, 1)
		holds(t, fmt.Sprintf("Align again behind %d", from), r.Bytes(), s.align().low(1, 1).bytes())
	}
}

// P5.1: Bytes.

func TestBytesWithinAByte(t *testing.T) {
	// What was answered stays, what is put goes on where it was.
	for _, width := range []int{1, 3, 7, 8, 9, 15, 16} {
		var r deflate.Row
		s := &slow{}
		var answers, wants [][]byte
		for i := range 700 {
			answers, wants = append(answers, r.Bytes(), r.Bytes()), append(wants, s.bytes(), s.bytes())
			r.Put(31*i, width)
			s.low(31*i, width)
		}
		for i := range answers {
			holds(t, fmt.Sprintf("width %d, answer %d", width, i), answers[i], wants[i])
		}
	}
}

func TestBytesIsNewMemory(t *testing.T) {
	for _, n := range []int{1, 7, 8, 9, 100, 2047, 2048, 2049, 5000} {
		r, s := ones(n)
		one, two := r.Bytes(), r.Bytes()
		for _, b := range [][]byte{one[:cap(one)], r.Bytes()} {
			for i := range b {
				b[i] = 0x11
			}
		}
		holds(t, "another answer", two, s.bytes())
		r.Put(0, 3)
		r.Put(5, 4)
		holds(t, "what goes on", r.Bytes(), s.low(0, 3).low(5, 4).bytes())
		_ = append(two[:0], make([]byte, cap(two))...)
		holds(t, "what goes on, again", r.Bytes(), s.bytes())
	}
}

// P5.1, all of it, as by the chapter's words.

func TestWhateverTurns(t *testing.T) {
	chance := rand.New(rand.NewSource(5))
	for range 3000 {
		var r deflate.Row
		s := &slow{}
		var turns []string
		for range chance.Intn(60) {
			n, width := chance.Int()-chance.Int(), 1+chance.Intn(16)
			switch chance.Intn(12) {
			case 0:
				turns = append(turns, "Align")
				r.Align()
				s.align()
			case 1:
				turns = append(turns, "Bytes")
				holds(t, fmt.Sprint(turns), r.Bytes(), s.bytes())
			case 2:
				width = other()[chance.Intn(len(other()))]
				turns = append(turns, fmt.Sprintf("Put(%d, %d)", n, width))
				r.Put(n, width)
			default:
				turns = append(turns, fmt.Sprintf("Put(%d, %d)", n, width))
				r.Put(n, width)
				s.low(n, width)
			}
		}
		holds(t, fmt.Sprint(turns), r.Bytes(), s.bytes())
	}
}

// FuzzRow holds a Row against slow bits, as go test -fuzz asks: each three bytes are a turn.
func FuzzRow(f *testing.F) {
	f.Add([]byte{1, 1, 0, 255, 0, 0, 8, 0xB5, 0, 16, 0x34, 0x12})
	f.Fuzz(func(t *testing.T, turns []byte) {
		var r deflate.Row
		s := &slow{}
		for ; len(turns) >= 3; turns = turns[3:] {
			width, n := int(int8(turns[0])), int(int8(turns[1]))<<8+int(turns[2])
			switch {
			case width == -1:
				r.Align()
				s.align()
			case width >= 1 && width <= 16:
				s.low(n, width)
				fallthrough
			default:
				r.Put(n, width)
			}
			holds(t, "turns", r.Bytes(), s.bytes())
		}
	})
}

func TestLongRows(t *testing.T) {
	for _, n := range []int{255, 256, 257, 511, 512, 513, 4095, 4096, 4097, 65535, 65536, 65537, 300000} {
		b := mixed(n)
		var whole, shifted deflate.Row
		shifted.Put(1, 1)
		for _, c := range b {
			whole.Put(int(c), 8)
			shifted.Put(int(c), 8)
		}
		holds(t, fmt.Sprint(n, " bytes"), whole.Bytes(), b)
		want := make([]byte, n+1)
		want[0] = 1
		for i, c := range b {
			want[i] |= c << 1
			want[i+1] = c >> 7
		}
		holds(t, fmt.Sprint(n, " bytes behind a bit"), shifted.Bytes(), want)
	}
}

// R7: a nil Row.

func TestNilRow(t *testing.T) {
	var r *deflate.Row
	for range 2 {
		for _, width := range append(other(), 1, 2, 8, 15, 16) {
			for _, n := range numbers() {
				r.Put(n, width)
			}
		}
		r.Align()
		if b := r.Bytes(); len(b) != 0 {
			t.Errorf("Bytes of nil: % x", b)
		}
	}
}

// Ways: those who write embed a Row, whose methods are promoted.

type byValue struct {
	name string
	deflate.Row
	count int
}

// Put hides the Row's, and counts.
func (w *byValue) Put(n, width int) {
	w.count++
	w.Row.Put(n, width)
}

type byPointer struct{ *deflate.Row }

type putter interface {
	Put(n, width int)
	Align()
	Bytes() []byte
}

func TestEmbedded(t *testing.T) {
	v := &byValue{name: "by value"}
	for what, w := range map[string]putter{
		"alone":      &deflate.Row{},
		"by value":   v,
		"by pointer": byPointer{&deflate.Row{}},
		"in another": &struct{ byValue }{},
	} {
		holds(t, what, w.Bytes(), nil)
		w.Put(1, 1)
		w.Align()
		w.Put(0x1234, 16)
		put := w.Put
		put(1, 3)
		holds(t, what, w.Bytes(), []byte{1, 0x34, 0x12, 1})
	}
	if v.count != 3 || v.name != "by value" {
		t.Errorf("what embeds a Row is changed: %q, %d", v.name, v.count)
	}
}

// R5: what was put into one Row doesn't show in another, be this a copy.

func TestTwoRows(t *testing.T) {
	var one, two deflate.Row
	for i := range 3000 {
		one.Put(i, 5)
		two.Put(^i, 5)
	}
	s, u := &slow{}, &slow{}
	for i := range 3000 {
		s.low(i, 5)
		u.low(^i, 5)
	}
	holds(t, "one", one.Bytes(), s.bytes())
	holds(t, "two", two.Bytes(), u.bytes())
}

func TestCopiedRow(t *testing.T) {
	for _, n := range []int{0, 1, 7, 8, 9, 15, 16, 17, 64, 100, 128, 1000, 2040, 2047, 2048, 2049, 2056, 4095, 4096, 5000, 9000} {
		r, s := ones(n)
		one, two := *r, *r
		for i := range 4000 {
			r.Put(i, 3)
			one.Put(i, 7)
			two.Put(^i, 7)
		}
		u, v := &slow{bytes.Clone(s.bits)}, &slow{bytes.Clone(s.bits)}
		for i := range 4000 {
			s.low(i, 3)
			u.low(i, 7)
			v.low(^i, 7)
		}
		holds(t, fmt.Sprintf("what was copied at %d bits", n), r.Bytes(), s.bytes())
		holds(t, fmt.Sprintf("a copy at %d bits", n), one.Bytes(), u.bytes())
		holds(t, fmt.Sprintf("another copy at %d bits", n), two.Bytes(), v.bytes())
	}
}
