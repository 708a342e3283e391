package deflate_test

import (
	"bytes"
	"compress/zlib"
	"fmt"
	"io"
	"math/rand"
	"testing"

	"pressmark/api"
	"pressmark/deflate"
	"pressmark/inflate"
)

// reader is Blocks or Zlib of package inflate.
type reader func(b []byte, most int) ([]byte, int, api.Errno)

// back asks that what was written is read as it was, with just so much room, wherever it ends.
func back(t *testing.T, what string, read reader, written, b []byte) {
	t.Helper()
	behind := append(bytes.Clone(written), 0xA5, 0x5A)
	for _, in := range [][]byte{written, behind} {
		for _, most := range []int{len(b), len(b) + 1, api.MaxOutput} {
			came, n, e := read(in, most)
			if e != api.OK || n != len(written) || !bytes.Equal(came, b) {
				t.Errorf("%s, most %d: %s, of %d bytes, %v, want %s, of %d", what, most, short(came), n, e, short(b), len(written))
			}
		}
	}
	if _, _, e := read(written[:len(written)-1], len(b)); e != api.ErrShort {
		t.Errorf("%s, a byte less: %v, want ErrShort", what, e)
	}
	if len(b) > 0 {
		if came, n, e := read(written, len(b)-1); e != api.ErrLimit || n != 0 || len(came) > 0 {
			t.Errorf("%s, no room for a byte: %d, %d, %v, want ErrLimit", what, len(came), n, e)
		}
	}
}

// allBack asks it of all that writes.
func allBack(t *testing.T, what string, b []byte) {
	t.Helper()
	back(t, what+", Stored", inflate.Blocks, deflate.Stored(b), b)
	back(t, what+", Fixed", inflate.Blocks, deflate.Fixed(b), b)
	back(t, what+", Zlib", inflate.Zlib, deflate.Zlib(b), b)
}

// P5.5

func TestBack(t *testing.T) {
	for name, b := range kinds() {
		allBack(t, name, b)
	}
}

func TestBackAtTheEdgesOfBlocks(t *testing.T) {
	for _, n := range []int{0, 1, 2, 3, 65534, 65535, 65536, 131070, 131071, 300000} {
		allBack(t, fmt.Sprint(n, " by chance"), mixed(n))
		allBack(t, fmt.Sprint(n, " noughts"), make([]byte, n))
	}
}

func TestBackOfEachLength(t *testing.T) {
	all := mixed(400)
	for n := range len(all) {
		allBack(t, fmt.Sprint(n, " by chance"), all[:n])
		allBack(t, fmt.Sprint(n, " of one"), bytes.Repeat([]byte{'x'}, n))
		allBack(t, fmt.Sprint(n, " of a period"), more(rising(60), n, 60))
	}
}

func TestBackByChance(t *testing.T) {
	chance := rand.New(rand.NewSource(7))
	for range 400 {
		var b []byte
		for len(b) < chance.Intn(3000) {
			if len(b) > 0 {
				b = more(b, chance.Intn(300), 1+chance.Intn(min(len(b), 64)))
			}
			b = append(b, byte(chance.Intn(256)))
		}
		allBack(t, "by chance", b)
	}
}

func TestLibraryReads(t *testing.T) {
	for name, b := range kinds() {
		holds(t, name+", Stored", read(t, name, deflate.Stored(b)), b)
		holds(t, name+", Fixed", read(t, name, deflate.Fixed(b)), b)
		z, err := zlib.NewReader(bytes.NewReader(deflate.Zlib(b)))
		if err != nil {
			t.Errorf("%s: %v", name, err)
			continue
		}
		came, err := io.ReadAll(z)
		if err != nil {
			t.Errorf("%s: %v", name, err)
		}
		holds(t, name+", Zlib", came, b)
	}
}

// FuzzBack asks what is written back, as go test -fuzz asks.
func FuzzBack(f *testing.F) {
	f.Add([]byte("abcabcabc"))
	f.Fuzz(func(t *testing.T, b []byte) { allBack(t, "by fuzz", b) })
}

// R4: what was handed in is not kept.

func TestKeepsNothing(t *testing.T) {
	for what, f := range map[string]func([]byte) []byte{"Stored": deflate.Stored, "Fixed": deflate.Fixed, "Zlib": deflate.Zlib} {
		b := []byte("abcabcabc, and bytes \xff\xfe")
		written := f(b)
		was := bytes.Clone(written)
		clear(b)
		holds(t, what+", what was handed in changed since", written, was)
	}
}
