package ascii_test

import (
	"encoding/ascii85"
	"fmt"
	"math"
	"math/rand"
	"strings"
	"testing"

	"pressmark/api"
	"pressmark/ascii"
)

// P6.2: Base85

func TestBase85(t *testing.T) {
	for b, want := range map[string]string{
		"":                                     "~>",
		"\x00":                                 "!!~>",
		"\x00\x00":                             "!!!~>",
		"\x00\x00\x00":                         "!!!!~>",
		"\x00\x00\x00\x00":                     "z~>",
		"\x00\x00\x00\x00\x01":                 "z!<~>",
		"\x00\x00\x00\x00\x00":                 "z!!~>",
		"\x00\x00\x00\x00\x00\x00":             "z!!!~>",
		"\x00\x00\x00\x00\x00\x00\x00":         "z!!!!~>",
		"\x00\x00\x00\x00\x00\x00\x00\x00":     "zz~>",
		"\x00\x00\x00\x00\x00\x00\x00\x00\x00": "zz!!~>",
		"\x00\x00\x00\x01":                     "!!!!\"~>",
		"\x01\x00\x00\x00":                     "!<<*\"~>",
		"\x01\x00\x00\x00\x00":                 "!<<*\"!!~>",
		"\x01\x00\x00\x00\x00\x00\x00\x00":     "!<<*\"z~>",
		"\xff":                                 "rr~>",
		"\xff\xff":                             "s8N~>",
		"\xff\xff\xff":                         "s8W*~>",
		"\xff\xff\xff\xff":                     "s8W-!~>",
		"\xff\xff\xff\xff\xff":                 "s8W-!rr~>",
		"Man ":                                 "9jqo^~>",
		"Man is d":                             "9jqo^BlbD-~>",
		"pleasure.":                            "E,9)oF*2M7/c~>",
	} {
		writes(t, fmt.Sprintf("%q", b), ascii.Base85, b, want)
		reads(t, "Unbase85", ascii.Unbase85, want, b)
	}
	holds(t, "nil", ascii.Base85(nil), "~>")
}

// library85 is what the library makes of b, with the end.
func library85(b []byte) string {
	signs := make([]byte, ascii85.MaxEncodedLen(len(b)))
	return string(signs[:ascii85.Encode(signs, b)]) + "~>"
}

func TestBase85OfEachLength(t *testing.T) {
	long := mixed(300)
	for n := range long {
		for what, b := range map[string]string{
			"by chance": string(long[:n]),
			"noughts":   strings.Repeat("\x00", n),
			"of 255":    strings.Repeat("\xff", n),
			"rising":    string(rising(n)),
		} {
			what = fmt.Sprint(n, " bytes, ", what)
			writes(t, what, ascii.Base85, b, slowBase85([]byte(b)))
			holds(t, what+", by the library", ascii.Base85([]byte(b)), library85([]byte(b)))
		}
	}
}

func TestBase85OfNoughtsInGroups(t *testing.T) {
	// Each of eight bytes and a rest is a nought or not.
	for pattern := range 1 << 11 {
		b := make([]byte, 11)
		for i := range b {
			b[i] = byte(pattern >> i & 1 * (i + 7))
		}
		for n := 8; n <= len(b); n++ {
			holds(t, fmt.Sprintf("% x", b[:n]), ascii.Base85(b[:n]), slowBase85(b[:n]))
		}
	}
}

func TestBase85OfManyKinds(t *testing.T) {
	for name, b := range kinds() {
		writes(t, name, ascii.Base85, string(b), slowBase85(b))
		holds(t, name+", by the library", ascii.Base85(b), library85(b))
	}
}

// P6.2: Unbase85

func TestUnbase85(t *testing.T) {
	for signs, want := range map[string]string{
		"~>":                  "",
		" ~ > ":               "",
		"z~>":                 "\x00\x00\x00\x00",
		"zz~>":                "\x00\x00\x00\x00\x00\x00\x00\x00",
		"!!~>":                "\x00",
		"!!!~>":               "\x00\x00",
		"!!!!~>":              "\x00\x00\x00",
		"!!!!!~>":             "\x00\x00\x00\x00",
		"!!!!!z!!!!!~>":       strings.Repeat("\x00", 12),
		"z9jqo^~>":            "\x00\x00\x00\x00Man ",
		"9jqo^z~>":            "Man \x00\x00\x00\x00",
		"9jqo^zBlbD-~>":       "Man \x00\x00\x00\x00is d",
		"zE,9)oF*2M7z/c~>":    "\x00\x00\x00\x00pleasure\x00\x00\x00\x00.",
		"s8W-!~>":             "\xff\xff\xff\xff",
		"s8W-!s8W-!~>":        strings.Repeat("\xff", 8),
		"s8W,u~>":             "\xff\xff\xff\xfe",
		"!!!!u~>":             "\x00\x00\x00\x54",
		"9 j q o ^\n~\t>":     "Man ",
		"5uu~>":               "AV",
		"5u~>":                "A",
		"9jqo~>":              "Man",
		"9jq~>":               "Ma",
		"9j~>":                "M",
		"\x009\n\fj\r ~\x00>": "M",
	} {
		reads(t, "Unbase85", ascii.Unbase85, signs, want)
	}
}

func TestUnbase85TooShort(t *testing.T) {
	refuses(t, "nothing", ascii.Unbase85, "", api.ErrShort)
	if b, e := ascii.Unbase85(nil, 0); b != nil || e != api.ErrShort {
		t.Errorf("nil: %v, %v, want ErrShort", b, e)
	}
	for _, signs := range []string{
		" ", whites, "~", "~ ", "~" + whites, " ~", "!", "!!", "!!!", "!!!!", "!!!!!", "z", "zz", "z!", "9jqo^", "9jqo^9j", "uuuu",
		"9j~", "9jq~", "9jqo~", "9jqo^~", "z~", "9jqo^~ \n",
	} {
		refuses(t, "no end", ascii.Unbase85, signs, api.ErrShort)
	}
	// A group that was begun lets no byte come at the end of the bytes, only at the sign.
	for _, signs := range []string{"", " ", "!", "!!", "!!!", "!!!!", "uuuu", "~", "~ "} {
		answers(t, "no end", ascii.Unbase85, signs, 0, "", api.ErrShort)
	}
}

func TestUnbase85OfEachSign(t *testing.T) {
	for _, c := range rising(256) {
		sign := string([]byte{c})
		for _, signs := range []string{
			sign + "~>", sign + "!~>", sign + "!!!!~>", "!" + sign + "~>", "!!" + sign + "~>", "!!!" + sign + "~>", "!!!!" + sign + "~>", "!!!!!" + sign + "~>",
			"~" + sign + ">", "!!~" + sign, sign, "!" + sign, "~ " + sign + " >",
		} {
			want, fault := slowUnbase85(signs, 100)
			answers(t, "each sign", ascii.Unbase85, signs, 100, want, fault)
		}
		if c < '!' || c > 'u' {
			reading := c != 'z' && c != '~' && !strings.Contains(whites, sign)
			for _, signs := range []string{sign, sign + "~>", "9jqo^" + sign + "~>", "9j" + sign + "qo^~>", " " + sign + " ~>"} {
				if reading {
					refuses(t, "another sign", ascii.Unbase85, signs, api.ErrForm)
				}
			}
		}
		if c != '>' && !strings.Contains(whites, sign) {
			for _, signs := range []string{"~" + sign, "~" + sign + ">", "9j~" + sign + ">", "~ \n" + sign + ">", "z~" + sign} {
				refuses(t, "another sign behind the first of the end", ascii.Unbase85, signs, api.ErrForm)
			}
		}
	}
}

func TestUnbase85OfNoughts(t *testing.T) {
	for _, signs := range []string{"!z~>", "!!z~>", "!!!z~>", "!!!!z~>", "z!z~>", "9jqo^9z~>", "9 z~>", "9j\nz", "!z!!!!~>", "!!!!!!z"} {
		refuses(t, "z within a group", ascii.Unbase85, signs, api.ErrForm)
	}
	for n := range 50 {
		reads(t, "z", ascii.Unbase85, strings.Repeat("z", n)+"~>", strings.Repeat("\x00", 4*n))
		reads(t, "z", ascii.Unbase85, strings.Repeat("z!!!!!", n)+"~>", strings.Repeat("\x00", 8*n))
	}
	refuses(t, "z behind the first sign of the end", ascii.Unbase85, "~z>", api.ErrForm)
}

func TestUnbase85TooGreat(t *testing.T) {
	for _, signs := range []string{
		"s8W-\"~>", "s8W-#~>", "s8W-u~>", "s8W.!~>", "s8X!!~>", "s9!!!~>", "t!!!!~>", "uuuuu~>", "zs8W-\"~>", "9jqo^s8W-\"~>", "s8W-!s8W-\"~>",
		"s8W-\"", "uuuuu", "uuuuux", // met at the group's last sign
		"s8W-~>", "s8X~>", "s9~>", "t!~>", "u!~>", "uu~>", "uuu~>", "uuuu~>", "s8W~>", "s8~>", "s8W.~>", "zuu~>", "9jqo^s8W-~>",
		"s8W-~", "uu~", "uu~x", // met at the end's first sign
	} {
		refuses(t, "too great a group", ascii.Unbase85, signs, api.ErrForm)
	}
	reads(t, "the greatest of four", ascii.Unbase85, "s8W,~>", "\xff\xff\xff")
	reads(t, "the greatest of three", ascii.Unbase85, "s8V~>", "\xff\xff")
	reads(t, "the greatest of two", ascii.Unbase85, "s7~>", "\xff")
}

func TestUnbase85OfEachLastGroup(t *testing.T) {
	for i := range 85 * 85 {
		two := string([]byte{byte(33 + i/85), byte(33 + i%85)})
		for _, signs := range []string{two + "~>", two + "!~>", two + "u~>", two + "W~>", two + "W-~>", two + "W,~>", two + "W-!~>", two + "W-\"~>"} {
			want, fault := slowUnbase85(signs, 4)
			answers(t, "a last group", ascii.Unbase85, signs, 4, want, fault)
		}
	}
}

func TestUnbase85OfALoneSign(t *testing.T) {
	for _, c := range []byte(digits85()) {
		sign := string([]byte{c})
		for _, signs := range []string{sign + "~>", sign + "~", sign + " ~x", "9jqo^" + sign + "~>", "z" + sign + "~>"} {
			refuses(t, "a last group of one sign", ascii.Unbase85, signs, api.ErrForm)
		}
		answers(t, "a last group of one sign", ascii.Unbase85, sign+"~>", 0, "", api.ErrForm)
	}
}

func TestUnbase85White(t *testing.T) {
	for _, b := range []string{"", "M", "Ma", "Man", "Man ", "Man i", "Man \x00\x00\x00\x00d", "\xff\xff\xff\xff\xff"} {
		for _, white := range whitened(slowBase85([]byte(b))) {
			reads(t, "white signs", ascii.Unbase85, white, b)
		}
	}
	for _, sign := range strings.Split(notWhite, "") {
		refuses(t, "not white", ascii.Unbase85, "9j"+sign+"~>", api.ErrForm)
		refuses(t, "not white", ascii.Unbase85, "9j~"+sign+">", api.ErrForm)
	}
}

func TestUnbase85BehindTheEnd(t *testing.T) {
	for _, c := range rising(256) {
		sign := string([]byte{c})
		reads(t, "each sign behind", ascii.Unbase85, "9jq~>"+sign, "Ma")
		reads(t, "each sign behind", ascii.Unbase85, "~>"+sign+"~>", "")
	}
	for _, behind := range []string{"~>", "9jqo^", "z", "\xff\xfe", "\n%%EOF", ">>"} {
		reads(t, "behind", ascii.Unbase85, "9jqo^~ >"+behind, "Man ")
	}
}

func TestUnbase85Most(t *testing.T) {
	for _, most := range []int{0, -1, -100, math.MinInt} {
		answers(t, "no byte", ascii.Unbase85, "~>", most, "", api.OK)
		answers(t, "no byte", ascii.Unbase85, " ~ >9j", most, "", api.OK)
		for _, signs := range []string{"9j~>", "9jq~>", "9jqo~>", "9jqo^~>", "z~>", "zz~>"} {
			answers(t, "a byte too many", ascii.Unbase85, signs, most, "", api.ErrLimit)
		}
	}
	for n, signs := range []string{"~>", "9j~>", "9jq~>", "9jqo~>", "9jqo^~>", "9jqo^Bl~>", "9jqo^Blb~>", "9jqo^BlbD~>", "9jqo^BlbD-~>"} {
		for most := range 10 {
			if most < n {
				answers(t, "fewer", ascii.Unbase85, signs, most, "", api.ErrLimit)
			} else {
				answers(t, "as many", ascii.Unbase85, signs, most, "Man is d"[:n], api.OK)
			}
		}
	}
}

func TestUnbase85FirstFault(t *testing.T) {
	for _, c := range []struct {
		signs string
		most  int
		fault api.Errno
	}{
		{"x9jqo^~>", 0, api.ErrForm},
		{"9jqox^~>", 0, api.ErrForm},
		{"9jqo^x~>", 0, api.ErrLimit},
		{"9jqo^x", 3, api.ErrLimit},
		{"9jqo^x", 4, api.ErrForm},
		{"9jqo^", 3, api.ErrLimit},
		{"9jqo^", 4, api.ErrShort},
		{"9jqo", 0, api.ErrShort},
		{"zx", 3, api.ErrLimit},
		{"zx", 4, api.ErrForm},
		{"z", 3, api.ErrLimit},
		{"z", 4, api.ErrShort},
		{"xz", 0, api.ErrForm},
		{"9z", 0, api.ErrForm},
		{"zz", 7, api.ErrLimit},
		{"z9z", 4, api.ErrForm},
		{"uuuuu", 0, api.ErrForm}, // makes no byte
		{"9jqo^uuuuu", 4, api.ErrForm},
		{"9jqo^uuuuu", 3, api.ErrLimit},
		{"uuuuu9jqo^", 3, api.ErrForm},
		{"uu~>", 0, api.ErrForm},
		{"9~>", 0, api.ErrForm},
		{"9~", 0, api.ErrForm},
		{"9j~x", 0, api.ErrLimit},
		{"9j~", 0, api.ErrLimit},
		{"9j~x", 1, api.ErrForm},
		{"9j~", 1, api.ErrShort},
		{"9jqo~x", 2, api.ErrLimit},
		{"9jqo~x", 3, api.ErrForm},
		{"~x", 0, api.ErrForm},
		{"~", 0, api.ErrShort},
		{"9jqo^9~>", 3, api.ErrLimit},
		{"9jqo^9~>", 4, api.ErrForm},
		{"9jqo^9j~>", 4, api.ErrLimit},
		{"9jqo^9jx~>", 4, api.ErrForm},
		{"9jqo^9j", 4, api.ErrShort},
		{"zuu~", -1, api.ErrLimit},
		{"x", -1, api.ErrForm},
	} {
		answers(t, "two faults", ascii.Unbase85, c.signs, c.most, "", c.fault)
	}
}

func TestUnbase85OfAllTexts(t *testing.T) {
	all(t, ascii.Unbase85, slowUnbase85, "!uz~> x", 5, 5)
	all(t, ascii.Unbase85, slowUnbase85, "!s~>", 7, 5)
	byChance(t, ascii.Unbase85, slowUnbase85, digits85()+"zzz~>>"+whites, 30000, 40, 40)
	byChance(t, ascii.Unbase85, slowUnbase85, "!\"5s5s8W-!~z~> ", 60000, 14, 10)
	byChance(t, ascii.Unbase85, slowUnbase85, string(rising(256)), 20000, 8, 3)
}

func TestUnbase85AboutTheGreatest(t *testing.T) {
	chance := rand.New(rand.NewSource(85))
	for range 60000 {
		group := []byte("s8W-!")
		for range 1 + chance.Intn(2) {
			group[chance.Intn(5)] += byte(chance.Intn(3))
		}
		signs := string(group[:1+chance.Intn(5)])
		if chance.Intn(2) == 0 {
			signs = "9jqo^" + signs
		}
		want, fault := slowUnbase85(signs+"~>", 8)
		answers(t, "about the greatest", ascii.Unbase85, signs+"~>", 8, want, fault)
	}
}

// FuzzUnbase85 asks Unbase85 of anything, as go test -fuzz asks.
func FuzzUnbase85(f *testing.F) {
	f.Add("z9jqo^s8W-!/c ~ >", 13)
	f.Fuzz(func(t *testing.T, signs string, most int) {
		want, fault := slowUnbase85(signs, most)
		answers(t, "by fuzz", ascii.Unbase85, signs, most, want, fault)
	})
}
