package runs_test

import (
	"fmt"
	"math/rand"
	"strings"
	"testing"

	"pressmark/runs"
)

// P7.2

func TestExample(t *testing.T) {
	writes(t, "the chapter's", "abbbbc", string([]byte{0, 97, 253, 98, 0, 99, 128}))
	reads(t, "the chapter's", string([]byte{0, 97, 253, 98, 0, 99, 128}), "abbbbc")
}

func TestEncode(t *testing.T) {
	for b, want := range map[string]string{
		"":             "\x80",
		"x":            "\x00x\x80",
		"\x80":         "\x00\x80\x80",
		"xy":           "\x01xy\x80",
		"xx":           "\x01xx\x80",
		"xxy":          "\x02xxy\x80",
		"yxx":          "\x02yxx\x80",
		"xxyy":         "\x03xxyy\x80",
		"xyxyx":        "\x04xyxyx\x80",
		"xxx":          "\xfex\x80",
		"xxxx":         "\xfdx\x80",
		"\x80\x80\x80": "\xfe\x80\x80",
		"xxxy":         "\xfex\x00y\x80",
		"xxxyy":        "\xfex\x01yy\x80",
		"xxxyyy":       "\xfex\xfey\x80",
		"xxyyy":        "\x01xx\xfey\x80",
		"zxxyyy":       "\x02zxx\xfey\x80",
		"xyyyx":        "\x00x\xfey\x00x\x80",
		"xyyyxx":       "\x00x\xfey\x01xx\x80",
		"xxxyxxx":      "\xfex\x00y\xfex\x80",
		"xxxyyxxx":     "\xfex\x01yy\xfex\x80",
		"xxxxyyyyzz":   "\xfdx\xfdy\x01zz\x80",
	} {
		writes(t, fmt.Sprintf("%q", b), b, want)
		reads(t, fmt.Sprintf("%q", b), want, b)
	}
	holds(t, "nil", runs.Encode(nil), "\x80")
}

func TestEncodeOfAlike(t *testing.T) {
	for n, want := range map[int]string{
		0:   "\x80",
		1:   "\x00x\x80",
		2:   "\x01xx\x80",
		3:   "\xfex\x80",
		4:   "\xfdx\x80",
		126: "\x83x\x80",
		127: "\x82x\x80",
		128: "\x81x\x80",
		129: "\x81x\x00x\x80",
		130: "\x81x\x01xx\x80",
		131: "\x81x\xfex\x80",
		132: "\x81x\xfdx\x80",
		255: "\x81x\x82x\x80",
		256: "\x81x\x81x\x80",
		257: "\x81x\x81x\x00x\x80",
		258: "\x81x\x81x\x01xx\x80",
		259: "\x81x\x81x\xfex\x80",
	} {
		writes(t, fmt.Sprint(n, " alike"), alike(n), want)
		reads(t, fmt.Sprint(n, " alike"), want, alike(n))
	}
	// What is left of a row stands as it is with what is behind it.
	writes(t, "129 alike and another", alike(129)+"y", "\x81x\x01xy\x80")
	writes(t, "130 alike and another", alike(130)+"y", "\x81x\x02xxy\x80")
	writes(t, "130 alike and a row", alike(130)+"yyy", "\x81x\x01xx\xfey\x80")
	writes(t, "130 alike and others", alike(130)+rising(127), "\x81x\x7fxx"+rising(126)+"\x00\x7e\x80")
	for n := range 600 {
		writes(t, fmt.Sprint(n, " alike"), alike(n), slowEncode(alike(n)))
		writes(t, fmt.Sprint(n, " alike, one ahead, two behind"), "y"+alike(n)+"zz", slowEncode("y"+alike(n)+"zz"))
	}
}

func TestEncodeWithoutRows(t *testing.T) {
	for _, f := range []func(n int) string{rising, func(n int) string { return inPairs(n, 0) }, func(n int) string { return inPairs(n, 1) }} {
		for n, cuts := range map[int][]int{
			1: {1}, 2: {2}, 3: {3}, 126: {126}, 127: {127}, 128: {128}, 129: {128, 1}, 130: {128, 2}, 131: {128, 3},
			255: {128, 127}, 256: {128, 128}, 257: {128, 128, 1}, 258: {128, 128, 2}, 384: {128, 128, 128}, 385: {128, 128, 128, 1},
		} {
			b, want, at := f(n), "", 0
			for _, cut := range cuts {
				want += string([]byte{byte(cut - 1)}) + b[at:at+cut]
				at += cut
			}
			writes(t, fmt.Sprint(n, " without rows"), b, want+"\x80")
			reads(t, fmt.Sprint(n, " without rows"), want+"\x80", b)
		}
		for n := range 600 {
			writes(t, fmt.Sprint(n, " without rows"), f(n), slowEncode(f(n)))
		}
	}
}

func TestEncodeOfARowBehindOthers(t *testing.T) {
	b := rising(256)
	for n, want := range map[int]string{
		1:   "\x00" + b[:1],
		125: "\x7c" + b[:125],
		126: "\x7d" + b[:126],
		127: "\x7e" + b[:127],
		128: "\x7f" + b[:128],
		129: "\x7f" + b[:128] + "\x00" + b[128:129],
		130: "\x7f" + b[:128] + "\x01" + b[128:130],
		255: "\x7f" + b[:128] + "\x7e" + b[128:255],
		256: "\x7f" + b[:128] + "\x7f" + b[128:256],
	} {
		others := b[:n]
		// The byte that the others end with is not the row's, which stands nowhere next to it.
		row := strings.Repeat(string([]byte{b[n-1] + 100}), 3)
		what := fmt.Sprint(n, " others")
		writes(t, what+" and three", others+row, want+"\xfe"+row[:1]+"\x80")
		reads(t, what+" and three", want+"\xfe"+row[:1]+"\x80", others+row)
		writes(t, what+", three and one", others+row+"y", want+"\xfe"+row[:1]+"\x00y\x80")
		writes(t, what+" and six", others+row+row, want+"\xfb"+row[:1]+"\x80")
	}
}

func TestEncodeOfAPairBehindOthers(t *testing.T) {
	// A pair that the most a part holds cuts through is none: each goes with its own part.
	b := rising(127)
	writes(t, "two behind 127", b+"xx", "\x7f"+b+"x\x00x\x80")
	writes(t, "two behind 127, more", b+"xxy", "\x7f"+b+"x\x01xy\x80")
	writes(t, "two behind 126", b[:126]+"xx", "\x7f"+b[:126]+"xx\x80")
	writes(t, "two behind 126, a row", b[:126]+"xxyyy", "\x7f"+b[:126]+"xx\xfey\x80")
	writes(t, "two behind 127, a row", b+"xxyyy", "\x7f"+b+"x\x00x\xfey\x80")
	writes(t, "three behind 126", b[:126]+"xxx", "\x7d"+b[:126]+"\xfex\x80")
	writes(t, "three behind 127", b+"xxx", "\x7e"+b+"\xfex\x80")
	writes(t, "three behind 128", b+"yxxx", "\x7f"+b+"y\xfex\x80")
	writes(t, "four behind 127", b+"xxxx", "\x7e"+b+"\xfdx\x80")
	writes(t, "130 behind 127", b+alike(130), "\x7e"+b+"\x81x\x01xx\x80")
}

func TestEncodeOfTwoRows(t *testing.T) {
	lengths := []int{0, 1, 2, 3, 4, 125, 126, 127, 128, 129, 130, 131, 255, 256, 257, 258, 259}
	for _, n := range lengths {
		for _, m := range lengths {
			for _, k := range []int{0, 1, 2, 3, 128} {
				for _, b := range []string{
					alike(n) + strings.Repeat("y", m) + alike(k),
					rising(n) + strings.Repeat("\xff", m) + alike(k),
					inPairs(n, 1) + strings.Repeat("\xff", m) + rising(k),
				} {
					holds(t, fmt.Sprint(n, " ", m, " ", k), runs.Encode([]byte(b)), slowEncode(b))
				}
			}
		}
	}
}

func TestEncodeOfAllTexts(t *testing.T) {
	for _, b := range append(texts("ab", 14), texts("abc", 9)...) {
		writes(t, b, b, slowEncode(b))
		parts(t, b, b)
	}
}

func TestEncodeOfManyKinds(t *testing.T) {
	for name, b := range kinds() {
		writes(t, name, b, slowEncode(b))
		parts(t, name, b)
	}
	chance := rand.New(rand.NewSource(72))
	for range 4000 {
		b := byChance(chance)
		writes(t, "by chance", b, slowEncode(b))
		parts(t, "by chance", b)
	}
}

// parts takes what Encode makes of b apart, and asks of each part what the chapter says of it.
func parts(t *testing.T, what, b string) {
	t.Helper()
	at, row := 0, func(at int) bool { return at < len(b) && inARow(b, at) >= 3 }
	for all := runs.Encode([]byte(b)); ; {
		n := int(all[0])
		switch {
		case n == 128:
			if len(all) > 1 || at != len(b) {
				t.Errorf("%s: %s: %d bytes behind the end, %d are told", what, short(b), len(all)-1, at)
			}
			return
		case n > 128:
			if n = 257 - n; !row(at) || all[1] != b[at] || n != min(inARow(b, at), 128) {
				t.Fatalf("%s: %s: at %d a row of %d", what, short(b), at, n)
			}
			all = all[2:]
		default:
			if n++; at+n > len(b) || string(all[1:1+n]) != b[at:at+n] || n < 128 && at+n < len(b) && !row(at+n) {
				t.Fatalf("%s: %s: at %d %d as they are", what, short(b), at, n)
			}
			for i := range n {
				if row(at + i) {
					t.Fatalf("%s: %s: at %d no row", what, short(b), at+i)
				}
			}
			all = all[1+n:]
		}
		at += n
	}
}
