package lzw_test

import (
	"bytes"
	"fmt"
	"math/rand"
	"strings"
	"testing"

	"pressmark/api"
	"pressmark/lzw"
)

// back asks that what was written is read as it was, whatever stands behind, with just so much room.
func back(t *testing.T, what, b string) {
	t.Helper()
	written := string(lzw.Encode([]byte(b)))
	for _, behind := range []string{"", "\x80", "\x00", "\xff\xff\xff", "\x80\x40\x40"} {
		answers(t, what+", behind it "+short(behind), written+behind, len(b), b, api.OK)
	}
	answers(t, what+", more room", written, api.MaxOutput, b, api.OK)
	if len(b) > 0 {
		answers(t, what+", no room for a byte", written, len(b)-1, "", api.ErrLimit)
	}
	// Without the end all comes, but nothing says so.
	answers(t, what+", a byte less", written[:len(written)-1], len(b), "", api.ErrShort)
	for n := 0; n < len(written); n += 1 + len(written)/20 {
		answers(t, fmt.Sprint(what, ", cut to ", n), written[:n], len(b), "", api.ErrShort)
	}
}

// P8.3

func TestBack(t *testing.T) {
	for name, b := range kinds() {
		back(t, name, b)
	}
}

func TestBackOfEachLength(t *testing.T) {
	long, row := string(mixed(400)), unlike(400)
	for n := range 400 {
		back(t, fmt.Sprint(n, " by chance"), long[:n])
		back(t, fmt.Sprint(n, " alike"), alike(n))
		back(t, fmt.Sprint(n, " unlike"), row[:n])
		back(t, fmt.Sprint(n, " in a period"), strings.Repeat("abcabd", n)[:n])
	}
}

func TestBackAtEachStep(t *testing.T) {
	all, row := string(mixed(40000)), unlike(32769)
	for tables := range 3 {
		for _, rows := range []int{250, 762, 1786, 3834} {
			for n := tables*rowsOfATable + rows; n < tables*rowsOfATable+rows+9; n++ {
				back(t, fmt.Sprint(n, " unlike"), row[:n])
				back(t, fmt.Sprint(n, " by chance"), all[:n])
			}
		}
	}
}

func TestBackOfFewBytes(t *testing.T) {
	for c := range 256 {
		one := string([]byte{byte(c)})
		for n := range 5 {
			back(t, "of one byte", strings.Repeat(one, n))
		}
	}
	for _, b := range append(texts("\x00\x80\xff", 6), texts("ab", 9)...) {
		back(t, "few bytes", b)
	}
}

func TestBackByChance(t *testing.T) {
	chance := rand.New(rand.NewSource(84))
	for range 300 {
		back(t, "by chance", byChance(chance))
	}
}

func TestBackOfManyBytes(t *testing.T) {
	b := mixed(1<<19 + 3)
	clear(b[1000:300000])
	back(t, "half a million", string(b))
}

// FuzzBack asks what is written back, as go test -fuzz asks.
func FuzzBack(f *testing.F) {
	f.Add("-----A---B")
	f.Add(unlike(300) + alike(300))
	f.Fuzz(func(t *testing.T, b string) {
		writes(t, "by fuzz", b, slowEncode(b))
		parts(t, "by fuzz", b)
		back(t, "by fuzz", b)
	})
}

// R4: what was handed in is not kept.

func TestKeepsNothing(t *testing.T) {
	was := "abcabcabc, and bytes \xff\xfe" + alike(300) + unlike(5000)
	b := []byte(was)
	written := lzw.Encode(b)
	clear(b)
	holds(t, "Encode, what was handed in changed since", written, slowEncode(was))
	came, _ := lzw.Decode(written, len(was))
	clear(written)
	holds(t, "Decode, what was handed in changed since", came, was)
}

// R5: what is asked at the same time, or ahead, does not count.

func TestHangsOnArguments(t *testing.T) {
	for i := range 20 {
		t.Run("", func(t *testing.T) {
			t.Parallel()
			b := append(mixed(5000+i), alike(i)...)
			lzw.Decode([]byte(stream(97, 258, 400)), 100)
			came, e := lzw.Decode(lzw.Encode(b), len(b))
			if e != api.OK || !bytes.Equal(came, b) {
				t.Errorf("many at once: %v", e)
			}
		})
	}
}
