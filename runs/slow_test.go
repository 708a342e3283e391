package runs_test

import (
	"bytes"
	"fmt"
	"math"
	"math/rand"
	"slices"
	"strings"
	"testing"

	"pressmark/api"
	"pressmark/runs"
)

// slowDecode is what Decode has to answer, byte by byte.
func slowDecode(b string, most int) (string, api.Errno) {
	var came []byte
	for at := 0; at < len(b); {
		n := int(b[at])
		at++
		if n == 128 {
			return string(came), api.OK
		}
		left, step := n+1, 1
		if n >= 129 {
			left, step = 257-n, 0
		}
		for ; left > 0; left-- {
			if at >= len(b) {
				return "", api.ErrShort
			}
			if len(came) >= most {
				return "", api.ErrLimit
			}
			came = append(came, b[at])
			at += step
		}
		at += 1 - step
	}
	return "", api.ErrShort
}

// inARow is how often the byte at a place of b stands there in a row.
func inARow(b string, at int) int {
	n := 1
	for at+n < len(b) && b[at+n] == b[at] {
		n++
	}
	return n
}

// slowEncode is what Encode has to answer.
func slowEncode(b string) string {
	long := make([]int, len(b)) // of each place, how often its byte stands there in a row
	for at := range len(b) {
		if at == 0 || b[at] != b[at-1] {
			long[at] = inARow(b, at)
		} else {
			long[at] = long[at-1] - 1
		}
	}
	var all strings.Builder
	for at := 0; at < len(b); {
		n := min(long[at], 128)
		if n >= 3 {
			all.Write([]byte{byte(-(n - 1)), b[at]})
			at += n
			continue
		}
		n = 128
		if more := slices.IndexFunc(long[at:], func(n int) bool { return n >= 3 }); more >= 0 {
			n = min(n, more)
		}
		n = min(n, len(b)-at)
		all.WriteByte(byte(n - 1))
		all.WriteString(b[at : at+n])
		at += n
	}
	return all.String() + "\x80"
}

// filled is b with room behind it, full of one byte.
func filled(b string, room byte) []byte {
	return append([]byte(b), bytes.Repeat([]byte{room}, 300)...)[:len(b)]
}

// untouched tells if given, made by filled, is not what it was.
func untouched(t *testing.T, what string, given []byte, b string, room byte) {
	t.Helper()
	if !bytes.Equal(given[:len(b)+300], filled(b, room)[:len(b)+300]) {
		t.Errorf("%s: what was handed in is changed", what)
	}
}

// short is bytes of which no more is shown than tells where they differ.
func short(b string) string {
	if len(b) > 60 {
		return fmt.Sprintf("%d bytes, % x ..", len(b), b[:60])
	}
	return fmt.Sprintf("% x", b)
}

// holds tells if got is not want.
func holds(t *testing.T, what string, got []byte, want string) {
	t.Helper()
	if string(got) != want {
		t.Errorf("%s: %s, want %s", what, short(string(got)), short(want))
	}
}

// spoil changes all of an answer, spare room too.
func spoil(b []byte) {
	b = b[:cap(b)]
	for i := range b {
		b[i] ^= 0xFF
	}
}

// last is what b ends with.
func last(b string) byte {
	if b == "" {
		return 'a'
	}
	return b[len(b)-1]
}

// writes asks Encode what it makes of b, that it leaves b as it is, and that what it answers is new memory.
func writes(t *testing.T, what, b, want string) {
	t.Helper()
	// Who looks behind b finds its last row longer than it is.
	room := last(b)
	given := filled(b, room)
	got, other := runs.Encode(given), runs.Encode(given)
	untouched(t, what, given, b, room)
	holds(t, what, got, want)
	spoil(got)
	untouched(t, what+", the answer changed", given, b, room)
	holds(t, what+", another answer changed", other, want)
	holds(t, what+", asked again", runs.Encode(given), want)
}

// answers asks Decode what it makes of b with so much room.
func answers(t *testing.T, what, b string, most int, want string, fault api.Errno) {
	t.Helper()
	// Who looks behind b finds an end there.
	given := filled(b, 128)
	got, e := runs.Decode(given, most)
	if e != fault || string(got) != want {
		t.Errorf("%s: %s, most %d: %s, %v, want %s, %v", what, short(b), most, short(string(got)), e, short(want), fault)
	}
	if e != api.OK && got != nil {
		t.Errorf("%s: %s, most %d: a list beside %v", what, short(b), most, e)
	}
	untouched(t, what, given, b, 128)
}

// reads asks Decode what it makes of b with each room that makes a difference, and that what it answers is new memory.
func reads(t *testing.T, what, b, want string) {
	t.Helper()
	for _, most := range []int{len(want), len(want) + 1, api.MaxOutput, math.MaxInt} {
		answers(t, what, b, most, want, api.OK)
	}
	for _, most := range []int{0, -1, math.MinInt, len(want) - 1, len(want) / 2} {
		if len(want) > max(most, 0) {
			answers(t, what, b, most, "", api.ErrLimit)
		} else {
			answers(t, what, b, most, want, api.OK)
		}
	}
	given := filled(b, 128)
	got, _ := runs.Decode(given, len(want))
	other, _ := runs.Decode(given, len(want))
	spoil(got)
	untouched(t, what+", the answer changed", given, b, 128)
	holds(t, what+", another answer changed", other, want)
	again, _ := runs.Decode(given, len(want))
	holds(t, what+", asked again", again, want)
}

// tooShort asks that Decode answers ErrShort where there is room for all that comes.
func tooShort(t *testing.T, what, b string) {
	t.Helper()
	for _, most := range []int{128 * len(b), api.MaxOutput, math.MaxInt} {
		answers(t, what, b, most, "", api.ErrShort)
	}
}

// mixed are n bytes of all kinds, the same ones each time.
func mixed(n int) []byte {
	b := make([]byte, n)
	rand.New(rand.NewSource(int64(n))).Read(b)
	return b
}

// rising are n bytes, each one more than the one ahead of it, from 0 on.
func rising(n int) string {
	b := make([]byte, n)
	for i := range b {
		b[i] = byte(i)
	}
	return string(b)
}

// inPairs are n bytes, two alike and two alike, of which the first pair may be begun already.
func inPairs(n, begun int) string {
	b := make([]byte, n)
	for i := range b {
		b[i] = byte((i + begun) / 2)
	}
	return string(b)
}

// alike are n times one byte.
func alike(n int) string { return strings.Repeat("x", n) }

// kinds are bytes of many kinds.
func kinds() map[string]string {
	gaps := mixed(9000)
	few := mixed(9001)
	for i := range gaps {
		if few[i] < 250 {
			gaps[i] = 0
		}
	}
	for i := range few {
		few[i] &= 1
	}
	return map[string]string{
		"none":       "",
		"a nought":   "\x00",
		"a 128":      "\x80",
		"of 128":     strings.Repeat("\x80", 400),
		"all 256":    rising(256),
		"by chance":  string(mixed(70001)),
		"noughts":    strings.Repeat("\x00", 4099),
		"of 255":     strings.Repeat("\xff", 4100),
		"gaps":       string(gaps),
		"two kinds":  string(few),
		"in pairs":   inPairs(3001, 0),
		"in threes":  strings.Repeat("aaabbbccc", 300),
		"two, three": strings.Repeat("aabbb", 300),
		"words":      strings.Repeat("BT /F1 12 Tf 72 720 Td (words) Tj ET\n", 200),
	}
}

// byChance is bytes in rows of lengths about those that make a difference.
func byChance(chance *rand.Rand) string {
	lengths := []int{1, 1, 1, 2, 2, 3, 3, 4, 5, 60, 125, 126, 127, 128, 129, 130, 131, 255, 256, 257, 258}
	var b strings.Builder
	for range chance.Intn(12) {
		n := lengths[chance.Intn(len(lengths))]
		switch chance.Intn(4) {
		case 0:
			b.WriteString(rising(n))
		case 1:
			b.WriteString(inPairs(n, chance.Intn(2)))
		default:
			b.WriteString(strings.Repeat(string("ab\x00\x80"[chance.Intn(4)]), n))
		}
	}
	return b.String()
}

// texts are all of at most so many bytes of some.
func texts(among string, longest int) []string {
	all := []string{""}
	for begin, n := 0, 0; n < longest; n++ {
		end := len(all)
		for _, text := range all[begin:end] {
			for i := range len(among) {
				all = append(all, text+among[i:i+1])
			}
		}
		begin = end
	}
	return all
}
