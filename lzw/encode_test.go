package lzw_test

import (
	"fmt"
	"math/rand"
	"strings"
	"testing"

	"pressmark/api"
	"pressmark/lzw"
)

// rowsOfATable are how many rows are told till the table is full.
const rowsOfATable = 3838

// P8.2

func TestExample(t *testing.T) {
	writes(t, "the chapter's", "", string([]byte{128, 64, 64}))
	reads(t, "the chapter's", string([]byte{128, 64, 64}), "")
	holds(t, "nil", lzw.Encode(nil), string([]byte{128, 64, 64}))
}

func TestEncode(t *testing.T) {
	// That of ISO 32000-1, 7.4.4.2.
	writes(t, "the standard's", "-----A---B", "\x80\x0b\x60\x50\x22\x0c\x0c\x85\x01")
	writes(t, "a", "a", "\x80\x18\x60\x20") // 100000000 001100001 100000001 and 5 noughts
	writes(t, "a nought", "\x00", "\x80\x00\x20\x20")
	writes(t, "a 255", "\xff", "\x80\x3f\xe0\x20")
	for b, codes := range map[string][]int{
		"":         {},
		"x":        {120},
		"xy":       {120, 121},
		"xx":       {120, 120},
		"xxx":      {120, 258},
		"xxxx":     {120, 258, 120},
		"xxxxx":    {120, 258, 258},
		"xxxxxx":   {120, 258, 259},
		"xxxxxxx":  {120, 258, 259, 120},
		"xxxxxxxx": {120, 258, 259, 258},
		"xyx":      {120, 121, 120},
		"xyxy":     {120, 121, 258},
		"xyxyx":    {120, 121, 258, 120},
		"xyxyxy":   {120, 121, 258, 258},
		"xyxyxyx":  {120, 121, 258, 260},
		"xyyxy":    {120, 121, 121, 258},
		"xyyxyy":   {120, 121, 121, 258, 121},
		"xyyxyyx":  {120, 121, 121, 258, 260},
		"xyyx":     {120, 121, 121, 120},
		"abcabcd":  {97, 98, 99, 258, 99, 100},
		"abcabca":  {97, 98, 99, 258, 260},
		"abcbcab":  {97, 98, 99, 259, 258},
		"aabaab":   {97, 97, 98, 258, 98},
	} {
		want := inWidths(append([]int{256}, more(codes, 257)...)...)
		writes(t, fmt.Sprintf("%q", b), b, want)
		reads(t, fmt.Sprintf("%q", b), want, b)
	}
}

func TestEncodeOfEachByte(t *testing.T) {
	for c := range 256 {
		one := string([]byte{byte(c)})
		writes(t, "one", one, inWidths(256, c, 257))
		writes(t, "two", one+one, inWidths(256, c, c, 257))
		writes(t, "three", one+one+one, inWidths(256, c, 258, 257))
		other := string([]byte{byte(c + 1)})
		writes(t, "two unlike", one+other, inWidths(256, c, (c+1)&255, 257))
		writes(t, "two and two", one+other+one+other, inWidths(256, c, (c+1)&255, 258, 257))
	}
}

// alikeCodes are those of n times one byte, as long as the table has room: each row is a byte longer than the one ahead of it, the last one what is left.
func alikeCodes(n int) []int {
	var codes []int
	for long := 1; n > 0; long++ {
		row := min(long, n)
		if row == 1 {
			codes = append(codes, 'x')
		} else {
			codes = append(codes, 256+row)
		}
		n -= row
	}
	return codes
}

func TestEncodeOfAlike(t *testing.T) {
	for n := range 700 {
		want := inWidths(append([]int{256}, more(alikeCodes(n), 257)...)...)
		writes(t, fmt.Sprint(n, " alike"), alike(n), want)
		reads(t, fmt.Sprint(n, " alike"), want, alike(n))
	}
	// As many rows as go over each step of the width, and one byte about it.
	for _, rows := range []int{253, 254, 255, 256, 765, 766, 767, 1789, 1790, 1791} {
		all := rows * (rows + 1) / 2
		for n := all - 1; n <= all+1; n++ {
			want := inWidths(append([]int{256}, stepped(more(alikeCodes(n), 257)...)...)...)
			holds(t, fmt.Sprint(n, " alike"), lzw.Encode([]byte(alike(n))), want)
			answers(t, fmt.Sprint(n, " alike"), want, n, alike(n), api.OK)
		}
	}
}

func TestEncodeOfAlikeOverATable(t *testing.T) {
	all := rowsOfATable * (rowsOfATable + 1) / 2
	table := alikeCodes(all)
	for n := all - 1; n <= all+4; n++ {
		codes := append([]int{256}, stepped(more(alikeCodes(n), 257)...)...)
		if n > all {
			// 4095 is entered with the byte behind the last row.
			codes = append(append([]int{256}, stepped(more(table, 256)...)...), -9)
			codes = append(codes, more(alikeCodes(n-all), 257)...)
		}
		want := inWidths(codes...)
		holds(t, fmt.Sprint(n, " alike"), lzw.Encode([]byte(alike(n))), want)
		answers(t, fmt.Sprint(n, " alike"), want, n, alike(n), api.OK)
	}
}

// unlikeCodes are those of unlike bytes: each is told as it is.
func unlikeCodes(b string) []int {
	codes := []int{256}
	for len(b) > rowsOfATable {
		codes = append(codes, stepped(more(of(b[:rowsOfATable]), 256)...)...)
		codes = append(codes, -9)
		b = b[rowsOfATable:]
	}
	return append(codes, stepped(more(of(b), 257)...)...)
}

func TestEncodeOfUnlike(t *testing.T) {
	all := unlike(32769)
	ends := []int{0, 32768, 32769}
	for tables := range 8 {
		for _, rows := range []int{0, 1, 2, 3, 200, 252, 253, 254, 255, 256, 257, 764, 765, 766, 767, 768, 1788, 1789, 1790, 1791, 1792, 3835, 3836, 3837, 3838, 3839, 3840} {
			ends = append(ends, tables*rowsOfATable+rows)
		}
	}
	for _, n := range ends {
		what := fmt.Sprint(n, " unlike")
		want := inWidths(unlikeCodes(all[:n])...)
		holds(t, what, lzw.Encode([]byte(all[:n])), want)
		answers(t, what, want, n, all[:n], api.OK)
	}
	for n := range 1100 {
		writes(t, fmt.Sprint(n, " unlike"), all[:n], inWidths(unlikeCodes(all[:n])...))
	}
}

func TestEncodeAtTheEndOfATable(t *testing.T) {
	// With no byte behind the last row 4095 is not entered, and nothing is cleared.
	b := unlike(rowsOfATable)
	writes(t, "a table", b, inWidths(append([]int{256}, stepped(more(of(b), 257)...)...)...))
	// The last row may be a longer one, of those that were met last.
	b = unlike(rowsOfATable - 1)
	twice := b[len(b)-2:]
	for _, behind := range []string{"", twice[1:], twice, twice + twice, "", "z", "zz", "zzz"} {
		full := append([]int{256}, stepped(more(of(b), 256+rowsOfATable-1, 256)...)...)
		full = append(append(full, -9), slowCodes(behind)[1:]...)
		if behind == "" {
			full = append([]int{256}, stepped(more(of(b), 256+rowsOfATable-1, 257)...)...)
		}
		writes(t, fmt.Sprintf("a row at the end, and %q", behind), b+twice+behind, inWidths(full...))
	}
	// What was met ahead of a clear is not met behind it.
	b = unlike(rowsOfATable)
	writes(t, "rows anew", b+b[:5]+b[:5], slowEncode(b+b[:5]+b[:5]))
	codes := append([]int{256}, stepped(more(of(b), 256)...)...)
	codes = append(append(codes, -9), of("\x00\x01\x02\x03\x04")...)
	writes(t, "rows anew", b+b[:5]+b[:5], inWidths(append(codes, 258, 260, 4, 257)...))
}

func TestEncodeOfAllTexts(t *testing.T) {
	for _, b := range append(texts("ab", 13), texts("abc", 8)...) {
		writes(t, b, b, slowEncode(b))
		parts(t, b, b)
	}
}

func TestEncodeOfManyKinds(t *testing.T) {
	for name, b := range kinds() {
		writes(t, name, b, slowEncode(b))
		parts(t, name, b)
	}
	chance := rand.New(rand.NewSource(83))
	for range 300 {
		b := byChance(chance)
		writes(t, "by chance", b, slowEncode(b))
		parts(t, "by chance", b)
	}
}

// byChance are bytes in which many rows come again.
func byChance(chance *rand.Rand) string {
	var b []byte
	kinds := 1 + chance.Intn(256)
	for range chance.Intn(200) * chance.Intn(20) {
		b = append(b, byte(chance.Intn(kinds)))
		if chance.Intn(4) == 0 {
			from := chance.Intn(len(b))
			b = append(b, b[from:min(from+chance.Intn(60), len(b))]...)
		}
	}
	return string(b)
}

// parts takes what Encode makes of b apart, and asks of each code what the chapter says of it.
func parts(t *testing.T, what, b string) {
	t.Helper()
	all := lzw.Encode([]byte(b))
	bit, told := 0, -1 // how many rows are told since the last clear; none was met yet
	rows := map[string]int{}
	for at := 0; ; {
		width := 9
		for _, step := range []int{254, 766, 1790} {
			if told >= step {
				width++
			}
		}
		code := 0
		for range width {
			code = 2*code + int(all[bit/8]>>(7-bit%8)&1)
			bit++
		}
		switch full := told < 0 || told == rowsOfATable && at < len(b); {
		case full != (code == 256), code == 257 != (at == len(b) && !full):
			t.Fatalf("%s: %s: %d at %d, behind %d rows", what, short(b), code, at, told)
		case code == 256:
			told = 0
			rows = map[string]int{}
			continue
		case code == 257:
			if len(all) != (bit+7)/8 || bit%8 > 0 && all[bit/8]<<(bit%8) != 0 {
				t.Errorf("%s: %s: %d bytes, the end is at the bit %d", what, short(b), len(all), bit)
			}
			return
		}
		n := 1
		for at+n < len(b) && rows[b[at:at+n+1]] > 0 {
			n++
		}
		if n == 1 && code != int(b[at]) || n > 1 && code != rows[b[at:at+n]] {
			t.Fatalf("%s: %s: %d at %d", what, short(b), code, at)
		}
		if at+n < len(b) {
			rows[b[at:at+n+1]] = 258 + told
		}
		told++
		at += n
	}
}

func TestEncodeOfLongRows(t *testing.T) {
	// A row that is longer than any code's number.
	for _, n := range []int{1000, 65535, 65536, 65537, 200000} {
		b := strings.Repeat("ab", n/2) + strings.Repeat("b", n)
		parts(t, fmt.Sprint(n), b)
		back(t, fmt.Sprint(n), b)
	}
}
