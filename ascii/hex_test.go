package ascii_test

import (
	"encoding/hex"
	"fmt"
	"math"
	"strings"
	"testing"

	"pressmark/api"
	"pressmark/ascii"
)

// P6.1: Hex

func TestHex(t *testing.T) {
	for b, want := range map[string]string{
		"":                 ">",
		"\x00":             "00>",
		"\x01\xab":         "01ab>",
		"\xff":             "ff>",
		"A":                "41>",
		"\x00\x00\x00\x00": "00000000>",
		">~>":              "3e7e3e>",
	} {
		writes(t, fmt.Sprintf("%q", b), ascii.Hex, b, want)
	}
	holds(t, "nil", ascii.Hex(nil), ">")
}

func TestHexOfEachByte(t *testing.T) {
	for _, c := range rising(256) {
		writes(t, fmt.Sprint(c), ascii.Hex, string([]byte{c}), fmt.Sprintf("%02x>", c))
	}
	b := rising(256)
	writes(t, "all 256", ascii.Hex, string(b), slowHex(b))
}

func TestHexOfManyKinds(t *testing.T) {
	for name, b := range kinds() {
		writes(t, name, ascii.Hex, string(b), slowHex(b))
		holds(t, name+", by the library", ascii.Hex(b), hex.EncodeToString(b)+">")
	}
}

// P6.1: Unhex

func TestUnhex(t *testing.T) {
	for signs, want := range map[string]string{
		">":                       "",
		"4 1 4>":                  "A@",
		"41>":                     "A",
		"4>":                      "@",
		"0>":                      "\x00",
		"f>":                      "\xf0",
		"F>":                      "\xf0",
		"00>":                     "\x00",
		"000>":                    "\x00\x00",
		"ff>":                     "\xff",
		"fF>":                     "\xff",
		"Ff>":                     "\xff",
		"0123456789abcdef>":       "\x01\x23\x45\x67\x89\xab\xcd\xef",
		"0123456789ABCDEF>":       "\x01\x23\x45\x67\x89\xab\xcd\xef",
		"aAbBcCdDeEfF>":           "\xaa\xbb\xcc\xdd\xee\xff",
		"\n4\t1\x004\f2\r4 >":     "AB@",
		" \x00\t\n\f\r>":          "",
		"50 72 65 73 73 6D 61 7>": "Pressmap",
	} {
		reads(t, "Unhex", ascii.Unhex, signs, want)
	}
}

func TestUnhexOfEachByte(t *testing.T) {
	for c := range 256 {
		for _, form := range []string{"%02x>", "%02X>", "%02x", "%02X"} {
			signs := fmt.Sprintf(form, c)
			if strings.HasSuffix(signs, ">") {
				reads(t, "each byte", ascii.Unhex, signs, string([]byte{byte(c)}))
			} else {
				refuses(t, "each byte, no end", ascii.Unhex, signs, api.ErrShort)
			}
		}
	}
}

func TestUnhexTooShort(t *testing.T) {
	refuses(t, "nothing", ascii.Unhex, "", api.ErrShort)
	if b, e := ascii.Unhex(nil, 0); b != nil || e != api.ErrShort {
		t.Errorf("nil: %v, %v, want ErrShort", b, e)
	}
	for _, signs := range []string{" ", whites, "4", "41", "414", " 4 1 ", "00", "4\n", strings.Repeat("7e", 50)} {
		refuses(t, "no end", ascii.Unhex, signs, api.ErrShort)
	}
	// A pair that was begun lets no byte come at the end of the bytes, only at the sign.
	answers(t, "a digit, no end", ascii.Unhex, "4", 0, "", api.ErrShort)
	answers(t, "a digit, no end", ascii.Unhex, "414", 1, "", api.ErrShort)
	answers(t, "white, no end", ascii.Unhex, " ", 0, "", api.ErrShort)
}

func TestUnhexOfEachSign(t *testing.T) {
	for _, c := range rising(256) {
		sign := string([]byte{c})
		for _, signs := range []string{sign + ">", "4" + sign + ">", "41" + sign + ">", "41 4" + sign + "1>", sign, "4" + sign, "41" + sign} {
			want, fault := slowUnhex(signs, 100)
			answers(t, "each sign", ascii.Unhex, signs, 100, want, fault)
		}
		if strings.Contains("0123456789abcdefABCDEF>"+whites, sign) {
			continue
		}
		for _, signs := range []string{sign, sign + ">", "4" + sign + "1>", "41" + sign + ">", "41" + sign, " " + sign + " >"} {
			refuses(t, "another sign", ascii.Unhex, signs, api.ErrForm)
		}
	}
}

func TestUnhexWhite(t *testing.T) {
	for signs, want := range map[string]string{">": "", "4>": "@", "41>": "A", "414>": "A@", "7e3E2a>": "~>*"} {
		for _, white := range whitened(signs) {
			reads(t, "white signs", ascii.Unhex, white, want)
		}
	}
	for _, sign := range strings.Split(notWhite, "") {
		refuses(t, "not white", ascii.Unhex, "41"+sign+">", api.ErrForm)
	}
}

func TestUnhexBehindTheEnd(t *testing.T) {
	for _, behind := range []string{">", ">>", "4", "41", "41>", "x", "\x00", " ", "~>", "\xff\xfe", "\n%%EOF"} {
		reads(t, "behind", ascii.Unhex, ">"+behind, "")
		reads(t, "behind", ascii.Unhex, "41>"+behind, "A")
		reads(t, "behind", ascii.Unhex, "414>"+behind, "A@")
	}
	for _, c := range rising(256) {
		reads(t, "each sign behind", ascii.Unhex, "4 14 >"+string([]byte{c}), "A@")
	}
}

func TestUnhexMost(t *testing.T) {
	for _, most := range []int{0, -1, -100, math.MinInt} {
		answers(t, "no byte", ascii.Unhex, ">", most, "", api.OK)
		answers(t, "no byte", ascii.Unhex, " > 41", most, "", api.OK)
		answers(t, "a byte too many", ascii.Unhex, "4>", most, "", api.ErrLimit)
		answers(t, "a byte too many", ascii.Unhex, "41>", most, "", api.ErrLimit)
	}
	signs := strings.Repeat("5a", 20)
	for most := range 20 {
		answers(t, "fewer", ascii.Unhex, signs+">", most, "", api.ErrLimit)
		answers(t, "fewer, and a digit", ascii.Unhex, signs+"7>", most, "", api.ErrLimit)
	}
	answers(t, "just as many", ascii.Unhex, signs+">", 20, strings.Repeat("Z", 20), api.OK)
	answers(t, "just as many, and a digit", ascii.Unhex, signs+"7>", 20, "", api.ErrLimit)
	answers(t, "just as many, with the digit", ascii.Unhex, signs+"7>", 21, strings.Repeat("Z", 20)+"p", api.OK)
}

func TestUnhexFirstFault(t *testing.T) {
	for _, c := range []struct {
		signs string
		most  int
		fault api.Errno
	}{
		{"x41>", 0, api.ErrForm},
		{"4x1>", 0, api.ErrForm},
		{"4x", 0, api.ErrForm},
		{"41x>", 0, api.ErrLimit},
		{"41x", 0, api.ErrLimit},
		{"41", 0, api.ErrLimit},
		{"4 1", 0, api.ErrLimit},
		{"4", 0, api.ErrShort},
		{"4>x", 0, api.ErrLimit},
		{"41x>", 1, api.ErrForm},
		{"41x42>", 1, api.ErrForm},
		{"414x2>", 1, api.ErrForm},
		{"4142x>", 1, api.ErrLimit},
		{"4142x", 1, api.ErrLimit},
		{"4142", 1, api.ErrLimit},
		{"414", 1, api.ErrShort},
		{"41x", 1, api.ErrForm},
		{"41x", 9, api.ErrForm},
		{"x", 0, api.ErrForm},
		{"x", -5, api.ErrForm},
		{" x", 0, api.ErrForm},
		{"4~1", 0, api.ErrForm},
		{"41~", -1, api.ErrLimit},
	} {
		answers(t, "two faults", ascii.Unhex, c.signs, c.most, "", c.fault)
	}
}

func TestUnhexOfAllTexts(t *testing.T) {
	all(t, ascii.Unhex, slowUnhex, "09aF >x", 5, 3)
	all(t, ascii.Unhex, slowUnhex, "4>x", 8, 4)
	byChance(t, ascii.Unhex, slowUnhex, "0123456789abcdefABCDEF0123456789abcdefABCDEF \n\x00>", 30000, 60, 30)
	byChance(t, ascii.Unhex, slowUnhex, string(rising(256)), 20000, 6, 2)
}

// FuzzUnhex asks Unhex of anything, as go test -fuzz asks.
func FuzzUnhex(f *testing.F) {
	f.Add("4 1 4>", 2)
	f.Fuzz(func(t *testing.T, signs string, most int) {
		want, fault := slowUnhex(signs, most)
		answers(t, "by fuzz", ascii.Unhex, signs, most, want, fault)
	})
}
