package ascii_test

import (
	"bytes"
	"encoding/ascii85"
	"encoding/hex"
	"fmt"
	"math/rand"
	"testing"

	"pressmark/api"
	"pressmark/ascii"
)

// way is there and back.
type way struct {
	name  string
	write func([]byte) []byte
	read  reader
}

// ways are both of them.
func ways() []way {
	return []way{{"Hex", ascii.Hex, ascii.Unhex}, {"Base85", ascii.Base85, ascii.Unbase85}}
}

// scattered is signs with white ones put in anywhere.
func scattered(signs []byte, chance *rand.Rand) []byte {
	var b []byte
	for _, c := range signs {
		for chance.Intn(3) == 0 {
			b = append(b, whites[chance.Intn(len(whites))])
		}
		b = append(b, c)
	}
	return b
}

// back asks that what was written is read as it was.
func back(t *testing.T, what string, b []byte) {
	t.Helper()
	chance := rand.New(rand.NewSource(int64(len(b))))
	for _, w := range ways() {
		name := what + ", " + w.name
		signs := w.write(b)
		for _, in := range [][]byte{signs, scattered(signs, chance)} {
			for _, most := range []int{len(b), len(b) + 1, api.MaxOutput} {
				came, e := w.read(in, most)
				if e != api.OK || !bytes.Equal(came, b) {
					t.Errorf("%s, most %d: %s, %v, want %s", name, most, short(string(came)), e, short(string(b)))
				}
			}
			if came, e := w.read(in[:len(in)-1], len(b)); e != api.ErrShort || came != nil {
				t.Errorf("%s, a sign less: %d, %v, want ErrShort", name, len(came), e)
			}
			if came, e := w.read(in, len(b)-1); len(b) > 0 && (e != api.ErrLimit || came != nil) {
				t.Errorf("%s, no room for a byte: %d, %v, want ErrLimit", name, len(came), e)
			}
		}
	}
}

// P6.3

func TestBack(t *testing.T) {
	for name, b := range kinds() {
		back(t, name, b)
	}
}

func TestBackOfEachLength(t *testing.T) {
	long := mixed(260)
	for n := range long {
		back(t, fmt.Sprint(n, " by chance"), long[:n])
		back(t, fmt.Sprint(n, " noughts"), make([]byte, n))
		back(t, fmt.Sprint(n, " of 255"), bytes.Repeat([]byte{255}, n))
	}
}

func TestBackOfFewBytes(t *testing.T) {
	for c := range 256 {
		back(t, "a byte", []byte{byte(c)})
	}
	for n := 0; n < 1<<16; n += 7 {
		back(t, "two bytes", []byte{byte(n >> 8), byte(n)})
	}
	chance := rand.New(rand.NewSource(6))
	for range 5000 {
		b := mixed(3 + chance.Intn(2))
		chance.Read(b)
		back(t, "few bytes", b)
	}
}

func TestBackOfManyBytes(t *testing.T) {
	b := mixed(1<<20 + 3)
	clear(b[1000:300000])
	back(t, "a million", b)
}

func TestReadsTheLibrary(t *testing.T) {
	for name, b := range kinds() {
		signs := make([]byte, ascii85.MaxEncodedLen(len(b)))
		signs = signs[:ascii85.Encode(signs, b)]
		answers(t, name, ascii.Unbase85, string(signs)+"~>", len(b), string(b), api.OK)
		answers(t, name, ascii.Unhex, hex.EncodeToString(b)+">", len(b), string(b), api.OK)
	}
}

// FuzzBack asks what is written back, as go test -fuzz asks.
func FuzzBack(f *testing.F) {
	f.Add([]byte("\x00\x00\x00\x00abc"))
	f.Fuzz(func(t *testing.T, b []byte) { back(t, "by fuzz", b) })
}

// R4: what was handed in is not kept.

func TestKeepsNothing(t *testing.T) {
	for _, w := range ways() {
		b := []byte("\x00\x00\x00\x00abc, and bytes \xff\xfe")
		was := bytes.Clone(b)
		signs := w.write(b)
		written := bytes.Clone(signs)
		clear(b)
		holds(t, w.name+", what was handed in changed since", signs, string(written))
		came, _ := w.read(signs, 100)
		clear(signs)
		holds(t, w.name+" back, what was handed in changed since", came, string(was))
	}
}

// R5: what is asked at the same time, or ahead, does not count.

func TestHangsOnArguments(t *testing.T) {
	for _, w := range ways() {
		t.Run(w.name, func(t *testing.T) {
			for i := range 20 {
				t.Run("", func(t *testing.T) {
					t.Parallel()
					b := mixed(500 + i)
					w.read([]byte("9jx"), 0)
					came, e := w.read(w.write(b), len(b))
					if e != api.OK || !bytes.Equal(came, b) {
						t.Errorf("%s, many at once: %v", w.name, e)
					}
				})
			}
		})
	}
}
