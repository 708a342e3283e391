package predict_test

import (
	"bytes"
	"fmt"
	"math/rand"
	"slices"
	"strings"
	"testing"

	"pressmark/api"
	"pressmark/predict"
)

// predictors are all that may be.
func predictors() []int { return []int{1, 2, 10, 11, 12, 13, 14, 15} }

// slowMay is what May has to answer.
func slowMay(s predict.Shape) bool {
	return slices.Contains(predictors(), s.Predictor) && slices.Contains([]int{1, 2, 3, 4}, s.Colors) && s.Columns > 0 && s.Columns < 4097
}

// picture is bytes by rows, columns and colours.
type picture [][][]int

// at is one byte of a picture, 0 where it has none.
func (p picture) at(row, column, color int) int {
	if row < 0 || column < 0 {
		return 0
	}
	return p[row][column][color]
}

// expected is what a tag's rule says of a place.
func (p picture) expected(tag, row, column, color int) int {
	left, above, beyond := p.at(row, column-1, color), p.at(row-1, column, color), p.at(row-1, column-1, color)
	switch tag {
	case 1:
		return left
	case 2:
		return above
	case 3:
		return (left + above) >> 1
	case 4:
		// As the standard of PNG writes it.
		p := left + above - beyond
		pa, pb, pc := distance(p, left), distance(p, above), distance(p, beyond)
		if pa <= pb && pa <= pc {
			return left
		}
		if pb <= pc {
			return above
		}
		return beyond
	}
	return 0
}

func distance(a, b int) int {
	if a < b {
		return b - a
	}
	return a - b
}

// slowDecode is what Decode has to answer.
func slowDecode(s predict.Shape, b string) (string, api.Errno) {
	if !slowMay(s) {
		return "", api.ErrArg
	}
	if s.Predictor == 1 {
		return b, api.OK
	}
	var all strings.Builder
	var p picture
	for len(b) > 0 {
		tag := 1
		if s.Predictor >= 10 {
			tag, b = int(b[0]), b[1:]
		}
		if tag > 4 || len(b) < s.Colors*s.Columns {
			return "", api.ErrForm
		}
		p = append(p, nil)
		row := len(p) - 1
		for column := range s.Columns {
			p[row] = append(p[row], make([]int, s.Colors))
			for color := range s.Colors {
				c := (int(b[0]) + p.expected(tag, row, column, color)) % 256
				p[row][column][color] = c
				all.WriteByte(byte(c))
				b = b[1:]
			}
		}
	}
	return all.String(), api.OK
}

// slowEncode is what Encode has to answer.
func slowEncode(s predict.Shape, b string) (string, api.Errno) {
	if !slowMay(s) {
		return "", api.ErrArg
	}
	if s.Predictor == 1 {
		return b, api.OK
	}
	if len(b)%(s.Colors*s.Columns) != 0 {
		return "", api.ErrForm
	}
	tag := map[int]int{2: 1, 10: 0, 11: 1, 12: 2, 13: 3, 14: 4, 15: 2}[s.Predictor]
	return told(s, tag, b), api.OK
}

// told is b with one tag in each row, or without tags.
func told(s predict.Shape, tag int, b string) string {
	var all strings.Builder
	p := pictured(s, b)
	for row := range p {
		if s.Predictor >= 10 {
			all.WriteByte(byte(tag))
		}
		for column := range s.Columns {
			for color := range s.Colors {
				all.WriteByte(byte((p.at(row, column, color) - p.expected(tag, row, column, color) + 256) % 256))
			}
		}
	}
	return all.String()
}

// pictured is b by rows, columns and colours.
func pictured(s predict.Shape, b string) picture {
	var p picture
	for i := range len(b) {
		if i%(s.Colors*s.Columns) == 0 {
			p = append(p, nil)
		}
		row := &p[len(p)-1]
		if i%s.Colors == 0 {
			*row = append(*row, nil)
		}
		pixel := &(*row)[len(*row)-1]
		*pixel = append(*pixel, int(b[i]))
	}
	return p
}

// row is how many bytes a row of a shape is, without a tag.
func row(s predict.Shape) int { return s.Colors * s.Columns }

// filled is b with room behind it, full of one byte.
func filled(b string, room byte) []byte {
	return append([]byte(b), bytes.Repeat([]byte{room}, 300)...)[:len(b)]
}

// untouched tells if given, made by filled, is not what it was.
func untouched(t *testing.T, what string, given []byte, b string, room byte) {
	t.Helper()
	if !bytes.Equal(given[:len(b)+300], filled(b, room)[:len(b)+300]) {
		t.Errorf("%s: what was handed in is changed", what)
	}
}

// short is bytes of which no more is shown than tells where they differ.
func short(b string) string {
	if len(b) > 60 {
		return fmt.Sprintf("%d bytes, % x ..", len(b), b[:60])
	}
	return fmt.Sprintf("% x", b)
}

// holds tells if got is not want.
func holds(t *testing.T, what string, got []byte, want string) {
	t.Helper()
	if string(got) == want {
		return
	}
	at := 0
	for at < min(len(got), len(want)) && got[at] == want[at] {
		at++
	}
	t.Errorf("%s: %s, want %s: the first that differs is %d", what, short(string(got)), short(want), at)
}

// spoil changes all of an answer, spare room too.
func spoil(b []byte) {
	b = b[:cap(b)]
	for i := range b {
		b[i] ^= 0xFF
	}
}

// call is Decode or Encode.
type call func(predict.Shape, []byte) ([]byte, api.Errno)

// answers asks a call what it makes of b, that it leaves b as it is, and that what it answers is new memory.
func answers(t *testing.T, what string, f call, s predict.Shape, b, want string, fault api.Errno) {
	t.Helper()
	what = fmt.Sprint(what, ", ", s)
	given := filled(b, 3)
	got, e := f(s, given)
	if e != fault {
		t.Errorf("%s: %s: %v, want %v", what, short(b), e, fault)
	}
	if e != api.OK && got != nil {
		t.Errorf("%s: a list beside %v", what, e)
	}
	holds(t, what, got, want)
	untouched(t, what, given, b, 3)
	other, _ := f(s, given)
	spoil(got)
	untouched(t, what+", the answer changed", given, b, 3)
	holds(t, what+", another answer changed", other, want)
	again, e := f(s, given)
	if e != fault {
		t.Errorf("%s, asked again: %v, want %v", what, e, fault)
	}
	holds(t, what+", asked again", again, want)
}

// reads asks what Decode makes of b.
func reads(t *testing.T, what string, s predict.Shape, b, want string) {
	t.Helper()
	answers(t, what, predict.Decode, s, b, want, api.OK)
}

// writes asks what Encode makes of b.
func writes(t *testing.T, what string, s predict.Shape, b, want string) {
	t.Helper()
	answers(t, what, predict.Encode, s, b, want, api.OK)
}

// refuses asks that a call answers a fault.
func refuses(t *testing.T, what string, f call, s predict.Shape, b string, fault api.Errno) {
	t.Helper()
	answers(t, what, f, s, b, "", fault)
}

// shapes are all of few columns, and some of many.
func shapes() []predict.Shape {
	var all []predict.Shape
	for _, predictor := range predictors() {
		for colors := 1; colors <= 4; colors++ {
			for _, columns := range []int{1, 2, 3, 4, 5, 17, 300} {
				all = append(all, predict.Shape{predictor, colors, columns})
			}
		}
	}
	return all
}

// tagged are the bytes of rows, each with the next of the tags ahead.
func tagged(s predict.Shape, b string, tags ...int) string {
	var all strings.Builder
	for i := 0; len(b) > 0; i++ {
		all.WriteByte(byte(tags[i%len(tags)]))
		all.WriteString(b[:row(s)])
		b = b[row(s):]
	}
	return all.String()
}

// mixed are n bytes of all kinds, the same ones each time.
func mixed(n int) string {
	b := make([]byte, n)
	rand.New(rand.NewSource(int64(n))).Read(b)
	return string(b)
}

// among are n bytes of some, by chance.
func among(n int, some string) string {
	b := []byte(mixed(n))
	for i, c := range b {
		b[i] = some[int(c)%len(some)]
	}
	return string(b)
}

// rising are n bytes that rise by a step.
func rising(n, step int) string {
	b := make([]byte, n)
	for i := range b {
		b[i] = byte(i * step)
	}
	return string(b)
}

// kinds are so many rows of many kinds.
func kinds(s predict.Shape, rows int) map[string]string {
	n := rows * row(s)
	return map[string]string{
		"none":          "",
		"noughts":       strings.Repeat("\x00", n),
		"of 255":        strings.Repeat("\xff", n),
		"of 128":        strings.Repeat("\x80", n),
		"rows alike":    strings.Repeat(mixed(row(s)), rows),
		"of one colour": strings.Repeat("\x12\x9a\xfe\x80"[:s.Colors], rows*s.Columns),
		"by chance":     mixed(n),
		"of 0 and 255":  among(n, "\x00\xff"),
		"of few":        among(n, "\x00\x01\x7f\x80\x81\xfe\xff"),
		"near":          among(n, "\x80\x81\x82\x83"),
		"rising":        rising(n, 1),
		"falling":       rising(n, 253),
	}
}
