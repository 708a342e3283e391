package deflate_test

import (
	"bytes"
	"fmt"
	"testing"

	"pressmark/deflate"
)

// slowZlib is what Zlib has to answer, and how much longer Fixed is than Stored.
func slowZlib(b []byte) ([]byte, int) {
	f, s := slowFixed(b), slowStored(b)
	if len(f) < len(s) {
		return wrapped(f, b), len(f) - len(s)
	}
	return wrapped(s, b), len(f) - len(s)
}

// high are n bytes of 9 bits each, among which no row comes again.
func high(n int) []byte { return rising(256)[256-n:] }

// P5.4

func TestZlibByHand(t *testing.T) {
	for text, want := range map[string][]byte{
		"":          {120, 1, 0x03, 0x00, 0, 0, 0, 1},
		"a":         {120, 1, 0x4B, 0x04, 0x00, 0x00, 0x62, 0x00, 0x62},
		"abc":       {120, 1, 0x4B, 0x4C, 0x4A, 0x06, 0x00, 0x02, 0x4D, 0x01, 0x27},
		"\xff":      {120, 1, 0xFB, 0x0F, 0x00, 0x01, 0x00, 0x01, 0x00},
		"Wikipedia": append(append([]byte{120, 1}, slowFixed([]byte("Wikipedia"))...), 0x11, 0xE6, 0x03, 0x98),
	} {
		writes(t, fmt.Sprintf("%q", text), deflate.Zlib, []byte(text), want)
	}
	holds(t, "nil", deflate.Zlib(nil), []byte{120, 1, 0x03, 0x00, 0, 0, 0, 1})
}

func TestZlibTakesTheShorter(t *testing.T) {
	for _, c := range []struct {
		n      int
		fixed  int
		stored int
	}{
		{1, 3, 6}, {21, 25, 26}, {22, 26, 27},
		{23, 28, 28}, {24, 29, 29}, {29, 34, 34}, {30, 35, 35},
		{31, 37, 36}, {32, 38, 37}, {100, 114, 105}, {112, 128, 117},
	} {
		b := high(c.n)
		if f, s := len(deflate.Fixed(b)), len(deflate.Stored(b)); f != c.fixed || s != c.stored {
			t.Errorf("%d bytes: %d by Fixed, %d by Stored, want %d and %d", c.n, f, s, c.fixed, c.stored)
		}
		blocks := slowStored(b)
		if c.fixed < c.stored {
			blocks = slowFixed(b)
		}
		writes(t, fmt.Sprint(c.n, " bytes"), deflate.Zlib, b, wrapped(blocks, b))
	}
}

func TestZlibAtEachLength(t *testing.T) {
	// Many of 8 bits, some of 9: Fixed and Stored come near each other again and again.
	just := 0
	for n := range 300 {
		for _, b := range [][]byte{mixed(n), append(rising(140), high(112)...)[:min(n, 252)], append(high(112), rising(140)...)[:min(n, 252)]} {
			want, longer := slowZlib(b)
			if longer == 0 {
				just++
			}
			holds(t, fmt.Sprintf("%d bytes, by Fixed %d more", len(b), longer), deflate.Zlib(b), want)
		}
	}
	if just < 10 {
		t.Errorf("only %d are just as long by Fixed as by Stored", just)
	}
}

func TestZlibSum(t *testing.T) {
	// The highest byte first: all four differ here.
	b := []byte("\x00\x01Wikipedia\xff")
	z := deflate.Zlib(b)
	sum := z[len(z)-4:]
	holds(t, "the sum", sum, wrapped(nil, b)[2:])
	if sum[0] == sum[3] || sum[1] == sum[2] || sum[0] == sum[1] {
		t.Fatalf("bytes of the sum are alike: % x", sum)
	}
	// Halves at the ends of what they may be.
	for what, c := range map[string]struct {
		b     []byte
		lower []byte
	}{
		"greatest": {append(bytes.Repeat([]byte{255}, 256), 239), []byte{0xFF, 0xF0}},
		"nought":   {append(bytes.Repeat([]byte{255}, 256), 240), []byte{0, 0}},
	} {
		z := deflate.Zlib(c.b)
		holds(t, what, z[len(z)-4:], wrapped(nil, c.b)[2:])
		holds(t, what+", the lower half", z[len(z)-2:], c.lower)
	}
}

func TestZlibOfManyKinds(t *testing.T) {
	for name, b := range kinds() {
		b = b[:min(len(b), 9000)]
		want, _ := slowZlib(b)
		writes(t, name, deflate.Zlib, b, want)
	}
	// Longer than one block holds, and not made smaller.
	b := mixed(140000)
	writes(t, "by chance", deflate.Zlib, b, wrapped(slowStored(b), b))
}
