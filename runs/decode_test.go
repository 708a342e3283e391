package runs_test

import (
	"fmt"
	"math"
	"math/rand"
	"strings"
	"testing"

	"pressmark/api"
	"pressmark/runs"
)

// P7.1

func TestDecode(t *testing.T) {
	for b, want := range map[string]string{
		"\x80":                         "",
		"\x00x\x80":                    "x",
		"\x00\x80\x80":                 "\x80",
		"\x01xy\x80":                   "xy",
		"\x01\x80\x80\x80":             "\x80\x80",
		"\xffx\x80":                    "xx",
		"\xfex\x80":                    "xxx",
		"\xff\x80\x80":                 "\x80\x80",
		"\x82x\x80":                    alike(127),
		"\x81x\x80":                    alike(128),
		"\x81x\x81x\x80":               alike(256),
		"\x00x\x00x\x00x\x80":          "xxx",
		"\x02xxx\x80":                  "xxx",
		"\xffx\xffx\xffx\x80":          "xxxxxx",
		"\x00a\xfdb\x00c\x80":          "abbbbc",
		"\x7f" + rising(128) + "\x80":  rising(128),
		"\x7e" + rising(127) + "\x80":  rising(127),
		"\xfe\x00\x02\xff\xfe\x81\x80": "\x00\x00\x00\xff\xfe\x81",
	} {
		reads(t, fmt.Sprintf("%q", b), b, want)
	}
}

func TestDecodeOfNothing(t *testing.T) {
	for _, most := range []int{math.MinInt, -1, 0, 1, 100, math.MaxInt} {
		answers(t, "nothing", "", most, "", api.ErrShort)
		if b, e := runs.Decode(nil, most); b != nil || e != api.ErrShort {
			t.Errorf("nil: %v, %v, want ErrShort", b, e)
		}
	}
}

func TestDecodeBehindTheEnd(t *testing.T) {
	for _, c := range []byte(rising(256)) {
		one := string([]byte{c})
		reads(t, "each byte behind", "\x80"+one, "")
		reads(t, "each byte behind", "\x00x\x80"+one, "x")
		reads(t, "each byte behind", "\xffx\x80"+one, "xx")
	}
	for _, behind := range []string{"\x80", "\x80\x80", "\x00", "\x00y", "\x00y\x80", "\xffy\x80", "\x7fyy", "\x81", "\n", strings.Repeat("\x81y", 100)} {
		reads(t, "behind", "\x80"+behind, "")
		reads(t, "behind", "\x01xy\x80"+behind, "xy")
	}
}

func TestDecodeOfEachByte(t *testing.T) {
	behind := rising(200)
	for n := range 256 {
		first := string([]byte{byte(n)})
		what := fmt.Sprint("a part of ", n)
		asked, want := "", ""
		switch {
		case n < 128:
			asked = behind[:n+1]
			want = asked
		case n > 128:
			asked = "x"
			want = alike(257 - n)
		}
		reads(t, what, first+asked+"\x80", want)
		reads(t, what+", behind another", "\x00y"+first+asked+"\x80", "y"+want)
		reads(t, what+", ahead of another", first+asked+"\x80\xffz\x80", want)
		if n == 128 {
			continue
		}
		reads(t, what+", ahead of another", first+asked+"\xffz\x80", want+"zz")
		tooShort(t, what+", no end", first+asked)
		tooShort(t, what+", none behind", first)
		tooShort(t, what+", one fewer", first+asked[:len(asked)-1])
		// What would be the end is the byte that is asked for.
		tooShort(t, what+", one fewer ahead of the end", first+asked[:len(asked)-1]+"\x80")
		for i := range len(asked) {
			tooShort(t, fmt.Sprint(what, ", ", i, " behind"), first+asked[:i])
			tooShort(t, fmt.Sprint(what, ", ", i, " behind another"), "\xfey"+first+asked[:i])
		}
	}
}

func TestDecodeTooShort(t *testing.T) {
	for _, b := range []string{
		"\x00", "\x00x", "\x01", "\x01x", "\x01xy", "\x7f", "\x7fx", "\xff", "\xffx", "\x81", "\x81x",
		"\x00x\x00y", "\x00x\xffy", "\xffx\x00y", "\xffx\xffy", "\xffx\x00", "\xffx\xff", "\x00x\x01y", "\x00\x80", "\xff\x80", "\x01\x80\x80",
	} {
		tooShort(t, "no end", b)
	}
}

func TestDecodeMost(t *testing.T) {
	for _, most := range []int{0, -1, -100, math.MinInt} {
		answers(t, "no byte", "\x80", most, "", api.OK)
		answers(t, "no byte", "\x80\x00x", most, "", api.OK)
		for _, b := range []string{"\x00x\x80", "\x01xy\x80", "\xffx\x80", "\x81x\x80", "\x7f" + rising(128) + "\x80"} {
			answers(t, "a byte too many", b, most, "", api.ErrLimit)
		}
	}
	for _, b := range []string{
		"\x7f" + rising(128) + "\x80", "\x81x\x80", "\x81x\x00y\x80", "\x00y\x81x\x80", "\x02abc\xfed\x02efg\xfeh\x80", strings.Repeat("\x00x", 40) + "\x80", strings.Repeat("\xffx", 40) + "\x80",
	} {
		want, _ := slowDecode(b, math.MaxInt)
		for most := range len(want) {
			answers(t, "fewer", b, most, "", api.ErrLimit)
		}
		for most := len(want); most < len(want)+5; most++ {
			answers(t, "as many", b, most, want, api.OK)
		}
	}
}

func TestDecodeFirstFault(t *testing.T) {
	for _, c := range []struct {
		b     string
		most  int
		fault api.Errno
	}{
		// A byte too many ahead of a row that ends too early.
		{"\x00x\x00", 0, api.ErrLimit},
		{"\x00x\xff", 0, api.ErrLimit},
		{"\x01xy\x02z", 1, api.ErrLimit},
		{"\xffx\x02z", 1, api.ErrLimit},
		{"\xffx\xff", 1, api.ErrLimit},
		{"\x81x\x81", 127, api.ErrLimit},
		{"\x81x\x81", 128, api.ErrShort},
		{"\x00x\x00", 1, api.ErrShort},
		{"\x00x\xff", 1, api.ErrShort},
		{"\x01xy\x02z", 2, api.ErrLimit},
		{"\x01xy\x02z", 3, api.ErrShort},
		// In the row itself.
		{"\x04xy", 0, api.ErrLimit},
		{"\x04xy", 1, api.ErrLimit},
		{"\x04xy", 2, api.ErrShort}, // the byte too many stands behind the place where the row ends
		{"\x04xy", 3, api.ErrShort},
		{"\x04xy", 4, api.ErrShort},
		{"\x04", 0, api.ErrShort},
		{"\x04", -1, api.ErrShort},
		{"\xff", 0, api.ErrShort},
		{"\x81", 0, api.ErrShort},
		{"\x81", math.MinInt, api.ErrShort},
		{"\x81x", 0, api.ErrLimit},
		{"\x81x", 127, api.ErrLimit},
		{"\x7f" + rising(127), 126, api.ErrLimit},
		{"\x7f" + rising(127), 127, api.ErrShort},
		{"\x7f" + rising(127), 128, api.ErrShort},
		// No 128 besides.
		{"\x00x", 0, api.ErrLimit},
		{"\x00x", 1, api.ErrShort},
		{"\xffx", 1, api.ErrLimit},
		{"\xffx", 2, api.ErrShort},
		{"\x81x", 128, api.ErrShort},
		{"\x00x\x00y", 1, api.ErrLimit},
		{"\x00x\x00y", 2, api.ErrShort},
		{"\x00\x80", 0, api.ErrLimit},
		{"\x00\x80", 1, api.ErrShort},
		{"", -1, api.ErrShort},
		{"", 0, api.ErrShort},
	} {
		answers(t, "two faults", c.b, c.most, "", c.fault)
	}
}

func TestDecodeOfAllTexts(t *testing.T) {
	for _, b := range append(texts("\x00\x01\x02\x03\x80\xfe\xff", 5), texts("\x00\x7f\x80\x81", 6)...) {
		for _, most := range []int{-1, 0, 1, 2, 3, 4, 5, 6, 127, 128, 129, 130, 1000} {
			want, fault := slowDecode(b, most)
			answers(t, "all texts", b, most, want, fault)
		}
	}
}

func TestDecodeByChance(t *testing.T) {
	chance := rand.New(rand.NewSource(71))
	for range 40000 {
		b := make([]byte, chance.Intn(400))
		chance.Read(b)
		for i := range b {
			if chance.Intn(3) == 0 {
				b[i] = "\x00\x01\x80\xff\xfe"[chance.Intn(5)]
			}
		}
		most := chance.Intn(1200)
		want, fault := slowDecode(string(b), most)
		answers(t, "by chance", string(b), most, want, fault)
	}
}

// FuzzDecode asks Decode of anything, as go test -fuzz asks.
func FuzzDecode(f *testing.F) {
	f.Add("\x00a\xfdb\x00c\x80", 6)
	f.Fuzz(func(t *testing.T, b string, most int) {
		want, fault := slowDecode(b, most)
		answers(t, "by fuzz", b, most, want, fault)
	})
}
