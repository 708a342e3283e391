package predict_test

import (
	"math"
	"testing"

	"pressmark/api"
	"pressmark/predict"
)

// far are numbers that no shape has, beside those that are near ones that it has.
func far() []int {
	all := []int{math.MinInt, math.MinInt + 1, math.MinInt32, -4096, -257, -256, -255, 257, 258, 266, 4095, 4096, 4097, 65537, math.MaxInt32, math.MaxInt - 1, math.MaxInt}
	for _, n := range []int64{1<<31 + 1, 1<<32 + 1, 1<<32 + 2, 1<<32 + 10} {
		all = append(all, int(n))
	}
	return all
}

// to are the numbers from least to most.
func to(least, most int) []int {
	var all []int
	for n := least; n <= most; n++ {
		all = append(all, n)
	}
	return all
}

// A shape may be.

func TestMay(t *testing.T) {
	for _, s := range []predict.Shape{{1, 1, 1}, {2, 1, 1}, {10, 1, 1}, {12, 3, 100}, {15, 4, 4096}, {1, 4, 4096}} {
		if !s.May() {
			t.Errorf("%v may not be", s)
		}
	}
	for _, s := range []predict.Shape{{}, {0, 1, 1}, {3, 1, 1}, {9, 1, 1}, {16, 1, 1}, {1, 0, 1}, {1, 5, 1}, {1, 1, 0}, {1, 1, 4097}, {2, 1, 4097}, {15, 5, 1}, {-1, -1, -1}} {
		if s.May() {
			t.Errorf("%v may be", s)
		}
	}
}

func TestMayOfEach(t *testing.T) {
	for _, predictor := range append(to(-1, 17), far()...) {
		for _, colors := range append(to(-1, 6), far()...) {
			for _, columns := range append(append(to(-1, 2), 100, 4094), far()...) {
				s := predict.Shape{predictor, colors, columns}
				want := slowMay(s)
				if s.May() != want {
					t.Errorf("%v: %v, want %v", s, !want, want)
				}
				if (&s).May() != want {
					t.Errorf("%v, by its place: %v, want %v", s, !want, want)
				}
				if want {
					continue
				}
				for _, b := range []string{"", "a", "\x05", "\x01ab"} {
					if got, e := predict.Decode(s, []byte(b)); got != nil || e != api.ErrArg {
						t.Errorf("Decode of %v: %v, %v, want ErrArg", s, got, e)
					}
					if got, e := predict.Encode(s, []byte(b)); got != nil || e != api.ErrArg {
						t.Errorf("Encode of %v: %v, %v, want ErrArg", s, got, e)
					}
				}
			}
		}
	}
}

func TestMayOfColumns(t *testing.T) {
	for columns := -10; columns < 5000; columns++ {
		for _, predictor := range []int{1, 2, 9, 10, 15, 16} {
			s := predict.Shape{predictor, 4, columns}
			if s.May() != slowMay(s) {
				t.Errorf("%v: %v", s, s.May())
			}
		}
	}
}

// ErrArg comes ahead of ErrForm, whatever the bytes.

func TestRefusedShapes(t *testing.T) {
	for _, s := range []predict.Shape{{}, {-1, 1, 1}, {3, 1, 2}, {9, 1, 2}, {16, 1, 2}, {1, 0, 2}, {2, 5, 1}, {12, 1, 4097}, {1, 1, 4097}, {12, 1, 0}, {2, 0, 0}, {12, -1, -1}, {14, -2, -2}, {12, math.MinInt, math.MinInt}, {2, 1, math.MinInt}, {15, 2, math.MaxInt}} {
		for _, b := range []string{"", "\x00", "\x05", "\x00ab", "\x05ab", "\x00abc", "abcd", mixed(1000)} {
			refuses(t, "Decode", predict.Decode, s, b, api.ErrArg)
			refuses(t, "Encode", predict.Encode, s, b, api.ErrArg)
		}
	}
}
