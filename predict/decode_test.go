package predict_test

import (
	"fmt"
	"math/rand"
	"strings"
	"testing"

	"pressmark/api"
	"pressmark/predict"
)

// P9.1

func TestExample(t *testing.T) {
	s := predict.Shape{12, 1, 2}
	reads(t, "the chapter's", s, "\x02\x01\x02\x02\x01\x01", "\x01\x02\x02\x03")
	writes(t, "the chapter's", s, "\x01\x02\x02\x03", "\x02\x01\x02\x02\x01\x01")
}

func TestDecodeAsItIs(t *testing.T) {
	for _, s := range []predict.Shape{{1, 1, 1}, {1, 3, 5}, {1, 4, 4096}} {
		for _, b := range []string{"", "a", "\x05", "\xff\xff", "abc", mixed(14), mixed(15), mixed(16), mixed(5000)} {
			reads(t, "as it is", s, b, b)
		}
		if b, e := predict.Decode(s, nil); len(b) != 0 || e != api.OK {
			t.Errorf("nil: %v, %v", b, e)
		}
	}
}

func TestDecodeByLeft(t *testing.T) {
	for _, c := range []struct {
		s       predict.Shape
		b, want string
	}{
		{predict.Shape{2, 1, 1}, "\x01\x02\xff", "\x01\x02\xff"},
		{predict.Shape{2, 1, 2}, "\x01\x02\x03\x04", "\x01\x03\x03\x07"},
		{predict.Shape{2, 1, 4}, "\x01\x02\x03\x04", "\x01\x03\x06\x0a"},
		{predict.Shape{2, 1, 4}, "\xff\x01\xff\xff", "\xff\x00\xff\xfe"},
		{predict.Shape{2, 2, 1}, "\x01\x02\x03\x04", "\x01\x02\x03\x04"},
		{predict.Shape{2, 2, 2}, "\x01\x02\x03\x04", "\x01\x02\x04\x06"},
		{predict.Shape{2, 2, 2}, "\x01\x02\x03\x04\x05\x06\x07\x08", "\x01\x02\x04\x06\x05\x06\x0c\x0e"},
		{predict.Shape{2, 3, 2}, "\x01\x02\x03\x04\x05\x06", "\x01\x02\x03\x05\x07\x09"},
		{predict.Shape{2, 4, 2}, "\xff\xfe\xfd\xfc\x01\x02\x04\x08", "\xff\xfe\xfd\xfc\x00\x00\x01\x04"},
	} {
		reads(t, "by left", c.s, c.b, c.want)
		writes(t, "by left", c.s, c.want, c.b)
	}
}

func TestDecodeOfEachTag(t *testing.T) {
	// Behind a row of 10 20 30, as it is.
	for tag, want := range []string{"\x01\x02\xff", "\x01\x03\x02", "\x0b\x16\x1d", "\x06\x0f\x15", "\x0b\x16\x1d"} {
		for predictor := 10; predictor <= 15; predictor++ {
			s := predict.Shape{predictor, 1, 3}
			reads(t, fmt.Sprint("tag ", tag), s, "\x00\x0a\x14\x1e"+string([]byte{byte(tag)})+"\x01\x02\xff", "\x0a\x14\x1e"+want)
		}
	}
	// Nothing is above the first row, nothing left of its first column.
	for tag, want := range []string{"\x81\x82\x83", "\x81\x03\x86", "\x81\x82\x83", "\x81\xc2\xe4", "\x81\x03\x86"} {
		for predictor := 10; predictor <= 15; predictor++ {
			reads(t, fmt.Sprint("tag ", tag), predict.Shape{predictor, 1, 3}, string([]byte{byte(tag)})+"\x81\x82\x83", want)
		}
	}
}

func TestDecodeOfAllTags(t *testing.T) {
	for _, s := range shapes() {
		if s.Predictor < 10 || s.Columns > 20 {
			continue
		}
		for n := range 125 {
			tags := []int{n / 25, n / 5 % 5, n % 5}
			for name, b := range kinds(s, 3) {
				told := tagged(s, b, tags...)
				want, fault := slowDecode(s, told)
				if fault != api.OK {
					t.Fatal(s, tags, fault)
				}
				got, e := predict.Decode(s, []byte(told))
				if e != api.OK || string(got) != want {
					t.Errorf("%s, %v, tags %v: %s, %v, want %s", name, s, tags, short(string(got)), e, short(want))
				}
			}
		}
	}
}

func TestDecodeOfEachShape(t *testing.T) {
	for _, s := range append(shapes(), predict.Shape{2, 1, 4095}, predict.Shape{2, 4, 4096}, predict.Shape{12, 4, 4096}, predict.Shape{15, 3, 4096}, predict.Shape{10, 1, 4096}) {
		for _, rows := range []int{1, 2, 6} {
			for name, b := range kinds(s, rows) {
				if s.Predictor >= 10 {
					b = tagged(s, b, 4, 3, 1, 2, 0, 3)
				}
				want, fault := slowDecode(s, b)
				if fault != api.OK {
					t.Fatal(s, fault)
				}
				reads(t, fmt.Sprint(rows, " rows, ", name), s, b, want)
			}
		}
	}
}

// around is what Decode makes of nought behind left, under above and beyond, by a tag.
func around(t *testing.T, tag int, left, above, beyond byte) byte {
	t.Helper()
	got, e := predict.Decode(predict.Shape{15, 1, 2}, []byte{0, beyond, above, byte(tag), 0, 0})
	if tag == 1 || tag == 3 || tag == 4 {
		// The second row's first byte has to be left, whatever its rule makes it of.
		first := map[int]byte{1: 0, 3: beyond / 2, 4: beyond}[tag]
		got, e = predict.Decode(predict.Shape{15, 1, 2}, []byte{0, beyond, above, byte(tag), left - first, 0})
		if got[2] != left {
			t.Fatalf("tag %d: left is %d, want %d", tag, got[2], left)
		}
	}
	if e != api.OK || len(got) != 4 {
		t.Fatal(got, e)
	}
	return got[3]
}

func TestDecodeHalf(t *testing.T) {
	for left := range 256 {
		for above := range 256 {
			if got, want := around(t, 3, byte(left), byte(above), 77), byte((left+above)/2); got != want {
				t.Errorf("left %d, above %d: %d, want %d", left, above, got, want)
			}
		}
	}
}

func TestDecodePaeth(t *testing.T) {
	for _, c := range [][4]byte{ // left, above, beyond, what is nearest
		{10, 20, 15, 15},
		{10, 20, 10, 20},
		{10, 20, 20, 10},
		{20, 10, 20, 10},
		{20, 10, 10, 20},
		{10, 10, 10, 10},
		{10, 10, 20, 10},
		{10, 20, 12, 20},
		{10, 20, 18, 10},
		// Equally near: left and above, left and beyond, above and beyond, all.
		{10, 20, 0, 20},
		{11, 11, 200, 11},
		{20, 10, 16, 16},
		{10, 30, 20, 20}, // at 20: beyond itself
		{10, 22, 18, 10}, // at 14: 4 from left, 4 from beyond
		{22, 10, 18, 10}, // at 14: 4 from above, 4 from beyond
		{10, 40, 30, 10}, // at 20: left and beyond
		{40, 10, 30, 10}, // at 20: above and beyond
		{40, 10, 20, 40}, // at 30: left and beyond
		{10, 40, 20, 40}, // at 30: above and beyond
		{7, 7, 7, 7},
		// Below 0 and above 255.
		{0, 0, 255, 0},
		{5, 3, 255, 3},
		{3, 5, 255, 3},
		{1, 1, 2, 1},
		{0, 1, 2, 0},
		{1, 0, 2, 0},
		{255, 255, 0, 255},
		{250, 252, 0, 252},
		{252, 250, 0, 252},
		{255, 255, 254, 255},
		{255, 254, 253, 255},
		{128, 128, 0, 128},
		{0, 0, 0, 0},
		{255, 0, 0, 255},
		{0, 255, 0, 255},
		{0, 255, 255, 0},
		{255, 0, 255, 0},
	} {
		if got := around(t, 4, c[0], c[1], c[2]); got != c[3] {
			t.Errorf("left %d, above %d, beyond %d: %d, want %d", c[0], c[1], c[2], got, c[3])
		}
	}
}

func TestDecodePaethOfAll(t *testing.T) {
	some := []int{0, 1, 2, 3, 4, 5, 126, 127, 128, 129, 130, 251, 252, 253, 254, 255}
	for n := 7; n < 256; n += 12 {
		some = append(some, n)
	}
	for _, left := range some {
		for _, above := range some {
			for _, beyond := range some {
				p := picture{{{beyond}, {above}}, {{left}, {0}}}
				if got, want := around(t, 4, byte(left), byte(above), byte(beyond)), byte(p.expected(4, 1, 1, 0)); got != want {
					t.Errorf("left %d, above %d, beyond %d: %d, want %d", left, above, beyond, got, want)
				}
			}
		}
	}
}

func TestDecodeOfNothing(t *testing.T) {
	for _, s := range append(shapes(), predict.Shape{15, 4, 4096}) {
		reads(t, "nothing", s, "", "")
		writes(t, "nothing", s, "", "")
		if b, e := predict.Decode(s, nil); len(b) != 0 || e != api.OK {
			t.Errorf("Decode of nil, %v: %v, %v", s, b, e)
		}
		if b, e := predict.Encode(s, nil); len(b) != 0 || e != api.OK {
			t.Errorf("Encode of nil, %v: %v, %v", s, b, e)
		}
	}
}

func TestDecodeOfNoWholeRows(t *testing.T) {
	for _, s := range shapes() {
		if s.Predictor == 1 {
			continue
		}
		told := row(s)
		if s.Predictor >= 10 {
			told++
		}
		for _, rows := range []int{0, 1, 2, 5} {
			for _, n := range []int{rows*told - 1, rows*told + 1, rows*told + told - 1, rows*told + told/2} {
				if n < 0 || n%told == 0 {
					continue
				}
				for _, b := range []string{strings.Repeat("\x00", n), strings.Repeat("\x02", n), strings.Repeat("\xff", n)} {
					refuses(t, fmt.Sprint(n, " bytes"), predict.Decode, s, b, api.ErrForm)
				}
			}
		}
	}
	// A row without its tag, a row of the other kind.
	refuses(t, "no tag", predict.Decode, predict.Shape{12, 1, 3}, "\x00\x00\x00", api.ErrForm)
	refuses(t, "a tag too many", predict.Decode, predict.Shape{2, 1, 3}, "\x00\x00\x00\x00", api.ErrForm)
	refuses(t, "a tag alone", predict.Decode, predict.Shape{12, 1, 3}, "\x02", api.ErrForm)
	refuses(t, "a tag alone behind a row", predict.Decode, predict.Shape{12, 1, 3}, "\x02abc\x02", api.ErrForm)
	refuses(t, "far too few", predict.Decode, predict.Shape{12, 4, 4096}, "\x02abc\x02", api.ErrForm)
}

func TestDecodeOfEachByteAsATag(t *testing.T) {
	for _, s := range []predict.Shape{{10, 1, 1}, {11, 1, 2}, {12, 2, 1}, {13, 3, 2}, {14, 4, 3}, {15, 1, 5}} {
		for tag := range 256 {
			for rows := 1; rows <= 4; rows++ {
				for place := range rows {
					tags := []int{2, 1, 4, 3}
					tags[place] = tag
					b := tagged(s, mixed(rows*row(s)), tags...)
					what := fmt.Sprint(tag, " in row ", place)
					if tag > 4 {
						refuses(t, what, predict.Decode, s, b, api.ErrForm)
					} else {
						want, _ := slowDecode(s, b)
						reads(t, what, s, b, want)
					}
				}
			}
		}
	}
}

// byChance is a shape, and what it may tell.
func byChance(chance *rand.Rand) (predict.Shape, string) {
	s := predict.Shape{predictors()[chance.Intn(8)], 1 + chance.Intn(4), 1 + chance.Intn(1+chance.Intn(40))}
	b := make([]byte, row(s)*chance.Intn(8))
	chance.Read(b)
	if chance.Intn(2) == 0 {
		for i := range b {
			b[i] = byte(chance.Intn(4)) - 2
		}
	}
	return s, string(b)
}

func TestDecodeByChance(t *testing.T) {
	chance := rand.New(rand.NewSource(91))
	for range 5000 {
		s, b := byChance(chance)
		if s.Predictor >= 10 {
			b = tagged(s, b, chance.Intn(5), chance.Intn(5), chance.Intn(5), chance.Intn(5+chance.Intn(2)))
		}
		if chance.Intn(8) == 0 && len(b) > 0 {
			b = b[:chance.Intn(len(b))]
		}
		want, fault := slowDecode(s, b)
		answers(t, "by chance", predict.Decode, s, b, want, fault)
	}
}
