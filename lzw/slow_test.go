package lzw_test

import (
	"bytes"
	"fmt"
	"math"
	"math/rand"
	"strings"
	"testing"

	"pressmark/api"
	"pressmark/lzw"
)

// wide is how wide a code is, where free is the next free one.
func wide(free int) int {
	switch {
	case free < 511:
		return 9
	case free < 1023:
		return 10
	case free < 2047:
		return 11
	}
	return 12
}

// slowDecode is what Decode has to answer, row by row.
func slowDecode(b string, most int) (string, api.Errno) {
	var came strings.Builder
	rows, free, last := map[int]string{}, 258, ""
	for at := 0; ; {
		width := wide(free)
		if at+width > 8*len(b) {
			return "", api.ErrShort
		}
		code := 0
		for ; width > 0; width-- {
			code = 2*code + int(b[at/8]>>(7-at%8)&1)
			at++
		}
		row := rows[code]
		switch {
		case code == 257:
			return came.String(), api.OK
		case code == 256:
			rows, free, last = map[int]string{}, 258, ""
			continue
		case code < 256:
			row = string([]byte{byte(code)})
		case last == "" || code > free:
			return "", api.ErrForm
		case code == free:
			row = last + last[:1]
		}
		if came.Len()+len(row) > max(most, 0) {
			return "", api.ErrLimit
		}
		came.WriteString(row)
		if last != "" && free < 4096 {
			rows[free] = last + row[:1]
			free++
		}
		last = row
	}
}

// slowCodes are those that Encode has to write.
func slowCodes(b string) []int {
	codes := []int{256}
	rows, next, longest := map[string]int{}, 258, 1
	for len(b) > 0 {
		n, code := 1, int(b[0])
		for m := min(longest, len(b)); m > 1; m-- {
			if found, ok := rows[b[:m]]; ok {
				n, code = m, found
				break
			}
		}
		codes = append(codes, code)
		if n < len(b) {
			rows[b[:n+1]] = next
			longest = max(longest, n+1)
			next++
		}
		if next == 4096 {
			codes = append(codes, 256)
			rows, next, longest = map[string]int{}, 258, 1
		}
		b = b[n:]
	}
	return append(codes, 257)
}

// slowEncode is what Encode has to answer.
func slowEncode(b string) string { return stream(slowCodes(b)...) }

// writer writes codes, as a row of bits.
type writer struct {
	b    []byte
	bits int
}

// put writes a code, of so many bits.
func (w *writer) put(code, width int) {
	for width--; width >= 0; width-- {
		if w.bits%8 == 0 {
			w.b = append(w.b, 0)
		}
		w.b[w.bits/8] |= byte(code>>width&1) << (7 - w.bits%8)
		w.bits++
	}
}

// stream is codes, each as wide as who reads it asks, and noughts up to a whole byte.
func stream(codes ...int) string {
	w := &writer{}
	free, begun := 258, false
	for _, code := range codes {
		w.put(code, wide(free))
		switch {
		case code == 256:
			free, begun = 258, false
		case code == 257:
		case begun && free < 4096:
			free++
		default:
			begun = true
		}
	}
	return string(w.b)
}

// inWidths is codes, of which each width tells how wide those behind it are: a width stands there as a number below 0.
func inWidths(codes ...int) string {
	w := &writer{}
	width := 9
	for _, code := range codes {
		if code < 0 {
			width = -code
		} else {
			w.put(code, width)
		}
	}
	return string(w.b)
}

// of are a text's bytes as codes.
func of(b string) []int {
	codes := make([]int, len(b))
	for i := range codes {
		codes[i] = int(b[i])
	}
	return codes
}

// more is codes with others behind them, in new memory.
func more(codes []int, behind ...int) []int {
	return append(append([]int{}, codes...), behind...)
}

// filled is b with room behind it, full of one byte.
func filled(b string, room byte) []byte {
	return append([]byte(b), bytes.Repeat([]byte{room}, 300)...)[:len(b)]
}

// untouched tells if given, made by filled, is not what it was.
func untouched(t *testing.T, what string, given []byte, b string, room byte) {
	t.Helper()
	if !bytes.Equal(given[:len(b)+300], filled(b, room)[:len(b)+300]) {
		t.Errorf("%s: what was handed in is changed", what)
	}
}

// short is bytes of which no more is shown than tells where they differ.
func short(b string) string {
	if len(b) > 60 {
		return fmt.Sprintf("%d bytes, % x ..", len(b), b[:60])
	}
	return fmt.Sprintf("% x", b)
}

// holds tells if got is not want.
func holds(t *testing.T, what string, got []byte, want string) {
	t.Helper()
	if string(got) == want {
		return
	}
	at := 0
	for at < min(len(got), len(want)) && got[at] == want[at] {
		at++
	}
	t.Errorf("%s: %s, want %s: the first that differs is %d", what, short(string(got)), short(want), at)
}

// spoil changes all of an answer, spare room too.
func spoil(b []byte) {
	b = b[:cap(b)]
	for i := range b {
		b[i] ^= 0xFF
	}
}

// last is what b ends with.
func last(b string) byte {
	if b == "" {
		return 'a'
	}
	return b[len(b)-1]
}

// writes asks Encode what it makes of b, that it leaves b as it is, and that what it answers is new memory.
func writes(t *testing.T, what, b, want string) {
	t.Helper()
	// Who looks behind b finds its last row longer than it is.
	room := last(b)
	given := filled(b, room)
	got, other := lzw.Encode(given), lzw.Encode(given)
	untouched(t, what, given, b, room)
	holds(t, what, got, want)
	spoil(got)
	untouched(t, what+", the answer changed", given, b, room)
	holds(t, what+", another answer changed", other, want)
	holds(t, what+", asked again", lzw.Encode(given), want)
}

// answers asks Decode what it makes of b with so much room.
func answers(t *testing.T, what, b string, most int, want string, fault api.Errno) {
	t.Helper()
	// Who looks behind b finds bits there.
	given := filled(b, 128)
	got, e := lzw.Decode(given, most)
	if e != fault || string(got) != want {
		t.Errorf("%s: %s, most %d: %s, %v, want %s, %v", what, short(b), most, short(string(got)), e, short(want), fault)
	}
	if e != api.OK && got != nil {
		t.Errorf("%s: %s, most %d: a list beside %v", what, short(b), most, e)
	}
	untouched(t, what, given, b, 128)
}

// reads asks Decode what it makes of b with each room that makes a difference, and that what it answers is new memory.
func reads(t *testing.T, what, b, want string) {
	t.Helper()
	for _, most := range []int{len(want), len(want) + 1, api.MaxOutput, math.MaxInt} {
		answers(t, what, b, most, want, api.OK)
	}
	for _, most := range []int{0, -1, math.MinInt, len(want) - 1, len(want) / 2} {
		if len(want) > max(most, 0) {
			answers(t, what, b, most, "", api.ErrLimit)
		} else {
			answers(t, what, b, most, want, api.OK)
		}
	}
	given := filled(b, 128)
	got, _ := lzw.Decode(given, len(want))
	other, _ := lzw.Decode(given, len(want))
	spoil(got)
	untouched(t, what+", the answer changed", given, b, 128)
	holds(t, what+", another answer changed", other, want)
	again, _ := lzw.Decode(given, len(want))
	holds(t, what+", asked again", again, want)
}

// refuses asks that Decode answers a fault where there is room for all that comes.
func refuses(t *testing.T, what, b string, fault api.Errno) {
	t.Helper()
	for _, most := range []int{api.MaxOutput, math.MaxInt} {
		answers(t, what, b, most, "", fault)
	}
}

// mixed are n bytes of all kinds, the same ones each time.
func mixed(n int) []byte {
	b := make([]byte, n)
	rand.New(rand.NewSource(int64(n))).Read(b)
	return b
}

// unlike are n bytes, at most 32769, of which no two that stand side by side stand there twice: each is a row of its own.
func unlike(n int) string {
	b := make([]byte, n)
	for i := 1; i < n; i++ {
		// By an odd step all 256 bytes come in 256 steps, and the first one again.
		step := (i-1)/256*2 + 1
		b[i] = b[i-1] + byte(step)
	}
	return string(b)
}

// alike are n times one byte.
func alike(n int) string { return strings.Repeat("x", n) }

// kinds are bytes of many kinds.
func kinds() map[string]string {
	gaps := mixed(9000)
	few := mixed(9001)
	for i := range gaps {
		if few[i] < 250 {
			gaps[i] = 0
		}
	}
	for i := range few {
		few[i] &= 1
	}
	return map[string]string{
		"none":      "",
		"a nought":  "\x00",
		"a 255":     "\xff",
		"by chance": string(mixed(30001)),
		"noughts":   strings.Repeat("\x00", 4099),
		"of 255":    strings.Repeat("\xff", 70000),
		"gaps":      string(gaps),
		"two kinds": string(few),
		"unlike":    unlike(32769),
		"in threes": strings.Repeat("aaabbbccc", 300),
		"a period":  strings.Repeat(unlike(300), 90),
		"words":     strings.Repeat("BT /F1 12 Tf 72 720 Td (words) Tj ET\n", 200),
		"two ways":  strings.Repeat("abcabd", 400) + string(mixed(5000)) + strings.Repeat("abcabd", 400),
	}
}

// texts are all of at most so many bytes of some.
func texts(among string, longest int) []string {
	all := []string{""}
	for begin, n := 0, 0; n < longest; n++ {
		end := len(all)
		for _, text := range all[begin:end] {
			for i := range len(among) {
				all = append(all, text+among[i:i+1])
			}
		}
		begin = end
	}
	return all
}
