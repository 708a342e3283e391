package predict_test

import (
	"fmt"
	"math/rand"
	"strings"
	"testing"

	"pressmark/api"
	"pressmark/predict"
)

// P9.2

func TestEncode(t *testing.T) {
	for _, c := range []struct {
		s       predict.Shape
		b, want string
	}{
		{predict.Shape{1, 1, 3}, "\x01\x02\x04\x08", "\x01\x02\x04\x08"},
		{predict.Shape{2, 1, 3}, "\x01\x02\x04\x08\x08\x07", "\x01\x01\x02\x08\x00\xff"},
		{predict.Shape{10, 1, 3}, "\x01\x02\x04\x08\x08\x07", "\x00\x01\x02\x04\x00\x08\x08\x07"},
		{predict.Shape{11, 1, 3}, "\x01\x02\x04\x08\x08\x07", "\x01\x01\x01\x02\x01\x08\x00\xff"},
		{predict.Shape{12, 1, 3}, "\x01\x02\x04\x08\x08\x07", "\x02\x01\x02\x04\x02\x07\x06\x03"},
		{predict.Shape{13, 1, 3}, "\x01\x02\x04\x08\x08\x07", "\x03\x01\x02\x03\x03\x08\x03\x01"},
		{predict.Shape{14, 1, 3}, "\x01\x02\x04\x08\x08\x07", "\x04\x01\x01\x02\x04\x07\x00\xff"},
		{predict.Shape{15, 1, 3}, "\x01\x02\x04\x08\x08\x07", "\x02\x01\x02\x04\x02\x07\x06\x03"},
		{predict.Shape{2, 3, 2}, "\x01\x02\x04\x08\x08\x07", "\x01\x02\x04\x07\x06\x03"},
		{predict.Shape{11, 3, 2}, "\x01\x02\x04\x08\x08\x07", "\x01\x01\x02\x04\x07\x06\x03"},
		{predict.Shape{12, 3, 1}, "\x01\x02\x04\x08\x08\x07", "\x02\x01\x02\x04\x02\x07\x06\x03"},
	} {
		writes(t, "of the shape", c.s, c.b, c.want)
		reads(t, "of the shape", c.s, c.want, c.b)
	}
}

func TestEncodeOfEachShape(t *testing.T) {
	for _, s := range append(shapes(), predict.Shape{2, 1, 4095}, predict.Shape{2, 4, 4096}, predict.Shape{14, 4, 4096}, predict.Shape{15, 3, 4096}, predict.Shape{10, 1, 4096}) {
		for _, rows := range []int{1, 2, 6} {
			for name, b := range kinds(s, rows) {
				want, fault := slowEncode(s, b)
				if fault != api.OK {
					t.Fatal(s, fault)
				}
				writes(t, fmt.Sprint(rows, " rows, ", name), s, b, want)
			}
		}
	}
}

func TestEncodeTags(t *testing.T) {
	for predictor := 10; predictor <= 15; predictor++ {
		for _, s := range []predict.Shape{{predictor, 1, 1}, {predictor, 3, 4}} {
			tag := byte(predictor - 10)
			if predictor == 15 {
				tag = 2
			}
			got, e := predict.Encode(s, []byte(mixed(9*row(s))))
			if e != api.OK || len(got) != 9*(1+row(s)) {
				t.Fatal(s, len(got), e)
			}
			for at := 0; at < len(got); at += 1 + row(s) {
				if got[at] != tag {
					t.Errorf("%v: the tag at %d is %d, want %d", s, at, got[at], tag)
				}
			}
		}
	}
}

func TestEncodeOfNoWholeRows(t *testing.T) {
	for _, s := range shapes() {
		for _, rows := range []int{0, 1, 2, 5} {
			for _, n := range []int{rows*row(s) - 1, rows*row(s) + 1, rows*row(s) + row(s)/2} {
				if n < 0 || n%row(s) == 0 {
					continue
				}
				b := mixed(n)
				if s.Predictor == 1 {
					writes(t, fmt.Sprint(n, " bytes"), s, b, b)
				} else {
					refuses(t, fmt.Sprint(n, " bytes"), predict.Encode, s, b, api.ErrForm)
				}
			}
		}
	}
	// With tags they would be whole.
	refuses(t, "rows with tags", predict.Encode, predict.Shape{12, 1, 3}, "\x02abc", api.ErrForm)
	writes(t, "rows with tags, that are whole ones", predict.Shape{10, 1, 2}, "\x02ab\x02ab", "\x00\x02a\x00b\x02\x00ab")
	refuses(t, "far too few", predict.Encode, predict.Shape{12, 4, 4096}, "abcd", api.ErrForm)
}

func TestEncodeByChance(t *testing.T) {
	chance := rand.New(rand.NewSource(92))
	for range 5000 {
		s, b := byChance(chance)
		if chance.Intn(8) == 0 && len(b) > 0 {
			b = b[:chance.Intn(len(b))]
		}
		want, fault := slowEncode(s, b)
		answers(t, "by chance", predict.Encode, s, b, want, fault)
	}
}

// Of each place what Encode expects hangs on bytes as they are, not on what it wrote.
func TestEncodeOfSteps(t *testing.T) {
	s := predict.Shape{13, 1, 4}
	writes(t, "steps", s, strings.Repeat("\x64", 8), "\x03\x64\x32\x32\x32\x03\x32\x00\x00\x00")
	s.Predictor = 14
	writes(t, "steps", s, "\x64\x65\x66\x67\x64\x65\x66\x67", "\x04\x64\x01\x01\x01\x04\x00\x00\x00\x00")
}
