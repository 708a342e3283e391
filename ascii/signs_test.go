package ascii_test

import (
	"math"
	"strings"
	"testing"

	"pressmark/ascii"
)

// numbers are those that may be signs, the ones about them, and those that are one if all but their low bits is left out.
func numbers() []int {
	l := []int{math.MinInt, math.MinInt + 1, math.MinInt32, math.MaxInt32, math.MaxInt, math.MaxInt - 1}
	for c := -1; c <= 256; c++ {
		l = append(l, c)
	}
	for c := range 256 {
		for _, far := range []int{1 << 8, 1 << 16, 1 << 31, 1 << 32, 1 << 62, math.MinInt} {
			l = append(l, c+far, c-far)
		}
		if c > 1 {
			l = append(l, -c)
		}
	}
	return l
}

func TestWhite(t *testing.T) {
	for _, c := range numbers() {
		want := c == 0 || c == 9 || c == 10 || c == 12 || c == 13 || c == 32
		if got := ascii.White(c); got != want {
			t.Errorf("White(%d): %v, want %v", c, got, want)
		}
	}
}

func TestDigit(t *testing.T) {
	for _, c := range numbers() {
		want := -1
		if c >= 0 && c <= 255 {
			// Of letters of either case the small ones stand 6 places behind.
			want = strings.IndexByte("0123456789ABCDEFabcdef", byte(c))
		}
		if want > 15 {
			want -= 6
		}
		if got := ascii.Digit(c); got != want {
			t.Errorf("Digit(%d): %d, want %d", c, got, want)
		}
	}
	for c, want := range map[int]int{'0': 0, '9': 9, 'a': 10, 'f': 15, 'A': 10, 'F': 15, '/': -1, ':': -1, '@': -1, 'G': -1, '`': -1, 'g': -1, 0: -1, -1: -1} {
		if got := ascii.Digit(c); got != want {
			t.Errorf("Digit(%d): %d, want %d", c, got, want)
		}
	}
}
