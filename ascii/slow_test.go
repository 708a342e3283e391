package ascii_test

import (
	"bytes"
	"encoding/hex"
	"fmt"
	"math"
	"math/rand"
	"slices"
	"strings"
	"testing"

	"pressmark/api"
)

// whites are the white signs.
const whites = "\x00\t\n\f\r "

// bare is signs without the white ones.
func bare(signs string) string {
	var b []byte
	for i := range len(signs) {
		if strings.IndexByte(whites, signs[i]) < 0 {
			b = append(b, signs[i])
		}
	}
	return string(b)
}

// ahead is the signs that b begins with, at most so many, that are among some.
func ahead(b, among string, most int) string {
	n := 0
	for n < len(b) && n < most && strings.IndexByte(among, b[n]) >= 0 {
		n++
	}
	return b[:n]
}

// slowHex is what Hex has to answer.
func slowHex(b []byte) string {
	var s strings.Builder
	for _, c := range b {
		fmt.Fprintf(&s, "%02x", c)
	}
	return s.String() + ">"
}

// slowUnhex is what Unhex has to answer.
func slowUnhex(signs string, most int) (string, api.Errno) {
	b := bare(signs)
	most = max(most, 0)
	row := ahead(b, "0123456789abcdefABCDEF", len(b))
	behind := b[len(row):]
	switch {
	case len(row)/2 > most:
		return "", api.ErrLimit
	case behind == "":
		return "", api.ErrShort
	case behind[0] != '>':
		return "", api.ErrForm
	case len(row)%2 == 1:
		row += "0"
	}
	if len(row)/2 > most {
		return "", api.ErrLimit
	}
	came, err := hex.DecodeString(row)
	if err != nil {
		panic(err)
	}
	return string(came), api.OK
}

// digits85 are the digits of base 85, from 0 on.
func digits85() string {
	var b []byte
	for i := range 85 {
		b = append(b, byte(33+i))
	}
	return string(b)
}

// groupOf is the five digits of four bytes.
func groupOf(b []byte) string {
	n := uint64(b[0])<<24 + uint64(b[1])<<16 + uint64(b[2])<<8 + uint64(b[3])
	signs := ""
	for _, unit := range []uint64{85 * 85 * 85 * 85, 85 * 85 * 85, 85 * 85, 85, 1} {
		signs += digits85()[n/unit%85:][:1]
	}
	return signs
}

// slowBase85 is what Base85 has to answer.
func slowBase85(b []byte) string {
	var s strings.Builder
	for ; len(b) >= 4; b = b[4:] {
		if string(b[:4]) == "\x00\x00\x00\x00" {
			s.WriteString("z")
		} else {
			s.WriteString(groupOf(b[:4]))
		}
	}
	if len(b) > 0 {
		s.WriteString(groupOf(slices.Concat(b, make([]byte, 4-len(b))))[:len(b)+1])
	}
	return s.String() + "~>"
}

// bytesOf is the four bytes of five digits; false, if they count too much.
func bytesOf(signs string) (string, bool) {
	n := uint64(0)
	unit := uint64(85 * 85 * 85 * 85)
	for i := range 5 {
		n += uint64(strings.IndexByte(digits85(), signs[i])) * unit
		unit /= 85
	}
	return string([]byte{byte(n >> 24), byte(n >> 16), byte(n >> 8), byte(n)}), n < 1<<32
}

// slowUnbase85 is what Unbase85 has to answer.
func slowUnbase85(signs string, most int) (string, api.Errno) {
	b := bare(signs)
	digits := digits85()
	came := ""
	for {
		row := ahead(b, digits, 5)
		b = b[len(row):]
		four, fits := bytesOf((row + "uuuuu")[:5])
		last := false
		switch {
		case len(row) == 5:
		case b == "":
			return "", api.ErrShort
		case b[0] == 'z' && row == "":
			b = b[1:]
			four, fits = "\x00\x00\x00\x00", true
		case b[0] != '~' || len(row) == 1:
			return "", api.ErrForm
		case row == "":
			four, fits, last = "", true, true
		default:
			four, last = four[:len(row)-1], true
		}
		if !fits {
			return "", api.ErrForm
		}
		came += four
		if len(came) > max(most, 0) {
			return "", api.ErrLimit
		}
		if !last {
			continue
		}
		switch {
		case b == "~":
			return "", api.ErrShort
		case b[1] != '>':
			return "", api.ErrForm
		}
		return came, api.OK
	}
}

// reader is Unhex or Unbase85.
type reader func(b []byte, most int) ([]byte, api.Errno)

// spared is b with room behind it that shows whether it is written to, and that would end what does not end.
func spared(b string) []byte { return append([]byte(b), room...)[:len(b)] }

// room is what stands in the spare room of what is handed in.
const room = "41>~>!!~>>"

// untouched tells if given, made by spared, is not what it was.
func untouched(t *testing.T, what string, given []byte, b string) {
	t.Helper()
	if string(given[:len(b)+len(room)]) != b+room {
		t.Errorf("%s: what was handed in is changed", what)
	}
}

// short is bytes of which no more is shown than tells where they differ.
func short(b string) string {
	if len(b) > 60 {
		return fmt.Sprintf("%d bytes, %q ..", len(b), b[:60])
	}
	return fmt.Sprintf("%q", b)
}

// holds tells if got is not want.
func holds(t *testing.T, what string, got []byte, want string) {
	t.Helper()
	if string(got) != want {
		t.Errorf("%s: %s, want %s", what, short(string(got)), short(want))
	}
}

// spoil changes all of an answer, spare room too.
func spoil(b []byte) {
	b = b[:cap(b)]
	for i := range b {
		b[i] ^= 0xFF
	}
}

// writes asks a function what it makes of b, that it leaves b as it is, and that what it answers is new memory.
func writes(t *testing.T, what string, f func([]byte) []byte, b, want string) {
	t.Helper()
	given := spared(b)
	got, other := f(given), f(given)
	untouched(t, what, given, b)
	holds(t, what, got, want)
	spoil(got)
	untouched(t, what+", the answer changed", given, b)
	holds(t, what+", another answer changed", other, want)
	holds(t, what+", asked again", f(given), want)
}

// answers asks a reader what it makes of signs with so much room.
func answers(t *testing.T, what string, f reader, signs string, most int, want string, fault api.Errno) {
	t.Helper()
	given := spared(signs)
	got, e := f(given, most)
	if e != fault || string(got) != want {
		t.Errorf("%s: %s, most %d: %s, %v, want %s, %v", what, short(signs), most, short(string(got)), e, short(want), fault)
	}
	if e != api.OK && got != nil {
		t.Errorf("%s: %s, most %d: a list beside %v", what, short(signs), most, e)
	}
	untouched(t, what, given, signs)
}

// reads asks a reader what it makes of signs with each room that makes a difference, and that what it answers is new memory.
func reads(t *testing.T, what string, f reader, signs, want string) {
	t.Helper()
	for _, most := range []int{len(want), len(want) + 1, api.MaxOutput, math.MaxInt} {
		answers(t, what, f, signs, most, want, api.OK)
	}
	for _, most := range []int{0, -1, math.MinInt, len(want) - 1, len(want) / 2} {
		if len(want) > max(most, 0) {
			answers(t, what, f, signs, most, "", api.ErrLimit)
		} else {
			answers(t, what, f, signs, most, want, api.OK)
		}
	}
	given := spared(signs)
	got, _ := f(given, len(want))
	other, _ := f(given, len(want))
	spoil(got)
	untouched(t, what+", the answer changed", given, signs)
	holds(t, what+", another answer changed", other, want)
	again, _ := f(given, len(want))
	holds(t, what+", asked again", again, want)
}

// refuses asks that a reader answers that error, however much room there is.
func refuses(t *testing.T, what string, f reader, signs string, fault api.Errno) {
	t.Helper()
	for _, most := range []int{100, api.MaxOutput, math.MaxInt} {
		answers(t, what, f, signs, most, "", fault)
	}
}

// all asks a reader whether it answers as a slow one, of all texts of at most so many of some signs, with each room up to that.
func all(t *testing.T, f reader, slow func(string, int) (string, api.Errno), among string, longest, most int) {
	t.Helper()
	texts := []string{""}
	for range longest + 1 {
		var longer []string
		for _, text := range texts {
			for room := -1; room <= most; room++ {
				want, fault := slow(text, room)
				answers(t, "of "+among, f, text, room, want, fault)
			}
			for i := range len(among) {
				longer = append(longer, text+among[i:i+1])
			}
		}
		if t.Failed() {
			return
		}
		texts = longer
	}
}

// byChance asks a reader whether it answers as a slow one, of texts of chance from some signs.
func byChance(t *testing.T, f reader, slow func(string, int) (string, api.Errno), among string, times, longest, most int) {
	t.Helper()
	chance := rand.New(rand.NewSource(int64(len(among))))
	for range times {
		text := make([]byte, chance.Intn(longest+1))
		for i := range text {
			text[i] = among[chance.Intn(len(among))]
		}
		room := chance.Intn(most + 1)
		want, fault := slow(string(text), room)
		answers(t, "by chance", f, string(text), room, want, fault)
	}
}

// whitened is texts in each of which white signs stand at one place of the given one, one of each and all of them, and one in which they stand at every place.
func whitened(text string) []string {
	var l []string
	for i := range len(text) + 1 {
		for w := range len(whites) {
			l = append(l, text[:i]+whites[w:w+1]+text[i:])
		}
		l = append(l, text[:i]+whites+whites+text[i:])
	}
	return append(l, whites+strings.Join(strings.Split(text, ""), whites)+whites)
}

// notWhite are signs that are taken for white ones elsewhere.
const notWhite = "\x01\x08\x0b\x0e\x1c\x1f\x7f\x85\xa0\xff"

// mixed are n bytes of all kinds, the same ones each time.
func mixed(n int) []byte {
	b := make([]byte, n)
	rand.New(rand.NewSource(int64(n))).Read(b)
	return b
}

// rising are n bytes, each one more than the one ahead of it, from 0 on.
func rising(n int) []byte {
	b := make([]byte, n)
	for i := range b {
		b[i] = byte(i)
	}
	return b
}

// kinds are bytes of many kinds.
func kinds() map[string][]byte {
	gaps := mixed(9000)
	few := mixed(9000)
	for i := range gaps {
		if few[i] < 200 {
			gaps[i] = 0
		}
		few[i] &= 3
	}
	return map[string][]byte{
		"none":        nil,
		"a nought":    {0},
		"a 255":       {255},
		"all 256":     rising(256),
		"all, turned": slices.Concat(rising(256)[200:], rising(201)),
		"by chance":   mixed(70001),
		"noughts":     make([]byte, 4000),
		"noughts, 1":  make([]byte, 4001),
		"noughts, 2":  make([]byte, 4002),
		"noughts, 3":  make([]byte, 4003),
		"of 255":      bytes.Repeat([]byte{255}, 4003),
		"gaps":        gaps,
		"few kinds":   few,
		"signs":       []byte("~>z!u<~ %\n"),
		"words":       bytes.Repeat([]byte("BT /F1 12 Tf 72 720 Td (words) Tj ET\n"), 200),
	}
}
