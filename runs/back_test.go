package runs_test

import (
	"bytes"
	"fmt"
	"math/rand"
	"strings"
	"testing"

	"pressmark/api"
	"pressmark/runs"
)

// back asks that what was written is read as it was, whatever stands behind, with just so much room.
func back(t *testing.T, what, b string) {
	t.Helper()
	written := string(runs.Encode([]byte(b)))
	for _, behind := range []string{"", "\x80", "\x00", "\xffx\x80", "x\x81"} {
		reads(t, what, written+behind, b)
	}
	if len(b) > 0 {
		answers(t, what+", no room for a byte", written, len(b)-1, "", api.ErrLimit)
	}
	// Without the end all comes, but nothing says so.
	answers(t, what+", a byte less", written[:len(written)-1], len(b), "", api.ErrShort)
}

// P7.3

func TestBack(t *testing.T) {
	for name, b := range kinds() {
		back(t, name, b)
	}
}

func TestBackOfEachLength(t *testing.T) {
	long := string(mixed(400))
	for n := range 400 {
		back(t, fmt.Sprint(n, " by chance"), long[:n])
		back(t, fmt.Sprint(n, " alike"), alike(n))
		back(t, fmt.Sprint(n, " of 128"), strings.Repeat("\x80", n))
		back(t, fmt.Sprint(n, " in pairs"), inPairs(n, 0))
	}
}

func TestBackOfFewBytes(t *testing.T) {
	for c := range 256 {
		one := string([]byte{byte(c)})
		for n := range 5 {
			back(t, "of one byte", strings.Repeat(one, n))
		}
	}
	for _, b := range append(texts("\x00\x80\xff", 6), texts("ab", 10)...) {
		back(t, "few bytes", b)
	}
}

func TestBackByChance(t *testing.T) {
	chance := rand.New(rand.NewSource(73))
	for range 3000 {
		back(t, "by chance", byChance(chance))
	}
}

func TestBackOfManyBytes(t *testing.T) {
	b := mixed(1<<20 + 3)
	clear(b[1000:300000])
	back(t, "a million", string(b))
}

// FuzzBack asks what is written back, as go test -fuzz asks.
func FuzzBack(f *testing.F) {
	f.Add("abbbbc")
	f.Add(rising(128) + alike(130))
	f.Add("\xe7\x89\x89\x89") // three alike, of which two are in one sign of UTF-8
	f.Fuzz(func(t *testing.T, b string) {
		writes(t, "by fuzz", b, slowEncode(b))
		parts(t, "by fuzz", b)
		back(t, "by fuzz", b)
	})
}

// R4: what was handed in is not kept.

func TestKeepsNothing(t *testing.T) {
	was := "abbbbc, and bytes \xff\xfe" + alike(300) + rising(300)
	b := []byte(was)
	written := runs.Encode(b)
	clear(b)
	holds(t, "Encode, what was handed in changed since", written, slowEncode(was))
	came, _ := runs.Decode(written, len(was))
	clear(written)
	holds(t, "Decode, what was handed in changed since", came, was)
}

// R5: what is asked at the same time, or ahead, does not count.

func TestHangsOnArguments(t *testing.T) {
	for i := range 20 {
		t.Run("", func(t *testing.T) {
			t.Parallel()
			b := append(mixed(500+i), alike(i)...)
			runs.Decode([]byte("\x00x\x81"), 100)
			came, e := runs.Decode(runs.Encode(b), len(b))
			if e != api.OK || !bytes.Equal(came, b) {
				t.Errorf("many at once: %v", e)
			}
		})
	}
}
