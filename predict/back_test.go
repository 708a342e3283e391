package predict_test

import (
	"fmt"
	"math/rand"
	"testing"

	"pressmark/api"
	"pressmark/predict"
)

// back asks that what was written is read as it was, and how long it is.
func back(t *testing.T, what string, s predict.Shape, b string) {
	t.Helper()
	written, e := predict.Encode(s, []byte(b))
	if e != api.OK {
		t.Errorf("%s, %v: %v", what, s, e)
		return
	}
	long := len(b)
	if s.Predictor >= 10 {
		long += len(b) / row(s)
	}
	if len(written) != long {
		t.Errorf("%s, %v: of %d bytes %d, want %d", what, s, len(b), len(written), long)
	}
	reads(t, what+", and back", s, string(written), b)
	if s.Predictor < 10 {
		return
	}
	// The tags say it, not the Predictor.
	for s.Predictor = 10; s.Predictor <= 15; s.Predictor++ {
		reads(t, what+", and back by another", s, string(written), b)
	}
}

// P9.3

func TestBack(t *testing.T) {
	for _, s := range append(shapes(), predict.Shape{2, 4, 4096}, predict.Shape{14, 4, 4096}, predict.Shape{13, 1, 4096}) {
		for _, rows := range []int{1, 2, 3, 9} {
			for name, b := range kinds(s, rows) {
				back(t, name, s, b)
			}
		}
	}
}

func TestBackOfEachByte(t *testing.T) {
	for _, predictor := range predictors() {
		for c := range 256 {
			one := string([]byte{byte(c), byte(c + 1), byte(255 - c), 0, 255, byte(c)})
			back(t, fmt.Sprint(c), predict.Shape{predictor, 1, 3}, one)
			back(t, fmt.Sprint(c), predict.Shape{predictor, 2, 1}, one)
			back(t, fmt.Sprint(c), predict.Shape{predictor, 1, 1}, one)
		}
	}
}

func TestBackByChance(t *testing.T) {
	chance := rand.New(rand.NewSource(93))
	for range 3000 {
		s, b := byChance(chance)
		back(t, "by chance", s, b)
	}
}

func TestBackOfManyBytes(t *testing.T) {
	back(t, "a million", predict.Shape{14, 4, 1024}, mixed(1<<20))
	back(t, "many rows", predict.Shape{13, 1, 1}, mixed(1<<18+1))
	back(t, "as it is", predict.Shape{1, 1, 1}, mixed(1<<20+7))
}

// FuzzBack asks all of some bytes, as go test -fuzz asks.
func FuzzBack(f *testing.F) {
	f.Add(12, 1, 2, "\x02\x01\x02\x02\x01\x01")
	f.Add(2, 3, 1, "abcdef")
	f.Add(14, 2, 3, "\x04abcdef\x03abcdef\x00abcdef")
	f.Fuzz(func(t *testing.T, predictor, colors, columns int, b string) {
		s := predict.Shape{predictor, colors, columns}
		came, fault := slowDecode(s, b)
		answers(t, "Decode", predict.Decode, s, b, came, fault)
		told, fault := slowEncode(s, b)
		answers(t, "Encode", predict.Encode, s, b, told, fault)
		if fault == api.OK {
			back(t, "by fuzz", s, b)
		}
	})
}

// R4: what was handed in is not kept.

func TestKeepsNothing(t *testing.T) {
	for _, s := range shapes() {
		was := mixed(4 * row(s))
		b := []byte(was)
		written, e := predict.Encode(s, b)
		clear(b)
		want, _ := slowEncode(s, was)
		if e != api.OK {
			t.Fatal(s, e)
		}
		holds(t, fmt.Sprint("Encode, what was handed in changed since, ", s), written, want)
		came, _ := predict.Decode(s, written)
		clear(written)
		holds(t, fmt.Sprint("Decode, what was handed in changed since, ", s), came, was)
	}
}

// R5: what is asked at the same time, or ahead, does not count.

func TestHangsOnArguments(t *testing.T) {
	for i := range 20 {
		t.Run("", func(t *testing.T) {
			t.Parallel()
			s := predict.Shape{10 + i%6, 1 + i%4, 7 + i}
			predict.Decode(predict.Shape{12, 1, 2}, []byte("\x02ab\x09ab"))
			for range 20 {
				back(t, "many at once", s, mixed(50*row(s)))
			}
		})
	}
}
