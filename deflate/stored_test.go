package deflate_test

import (
	"bytes"
	"compress/flate"
	"fmt"
	"io"
	"slices"
	"testing"

	"pressmark/deflate"
)

// read is what the library reads of blocks, and how many bytes of them.
func read(t *testing.T, what string, blocks []byte) []byte {
	t.Helper()
	r := bytes.NewReader(blocks)
	b, err := io.ReadAll(flate.NewReader(r))
	if err != nil || r.Len() > 0 {
		t.Errorf("%s: the library reads it with %v, %d bytes are left", what, err, r.Len())
	}
	return b
}

// P5.2

func TestStored(t *testing.T) {
	for text, want := range map[string][]byte{
		"":             {1, 0, 0, 255, 255},
		"a":            {1, 1, 0, 254, 255, 97},
		"ab":           {1, 2, 0, 253, 255, 97, 98},
		"\x00":         {1, 1, 0, 254, 255, 0},
		"\xff":         {1, 1, 0, 254, 255, 255},
		"aaaaaaaaaaaa": append([]byte{1, 12, 0, 243, 255}, "aaaaaaaaaaaa"...),
	} {
		writes(t, fmt.Sprintf("%q", text), deflate.Stored, []byte(text), want)
	}
	holds(t, "nil", deflate.Stored(nil), []byte{1, 0, 0, 255, 255})
}

// block is what stands ahead of a block's bytes.
type block struct{ mark, length, turned int }

// blocksOf takes Stored's answer apart.
func blocksOf(t *testing.T, b []byte) ([]block, []byte) {
	t.Helper()
	var l []block
	var came []byte
	for len(b) > 0 {
		if len(b) < 5 {
			t.Fatalf("%d bytes are left", len(b))
		}
		k := block{int(b[0]), int(b[1]) + int(b[2])<<8, int(b[3]) + int(b[4])<<8}
		if len(b) < 5+k.length {
			t.Fatalf("%d bytes are left, of %d and 5", len(b), k.length)
		}
		l, came, b = append(l, k), append(came, b[5:5+k.length]...), b[5+k.length:]
	}
	return l, came
}

func TestStoredBlocks(t *testing.T) {
	full := block{0, 65535, 0}
	for n, want := range map[int][]block{
		0:      {{1, 0, 65535}},
		1:      {{1, 1, 65534}},
		255:    {{1, 255, 65280}},
		256:    {{1, 256, 65279}},
		257:    {{1, 257, 65278}},
		65534:  {{1, 65534, 1}},
		65535:  {{1, 65535, 0}},
		65536:  {full, {1, 1, 65534}},
		65537:  {full, {1, 2, 65533}},
		131069: {full, {1, 65534, 1}},
		131070: {full, {1, 65535, 0}},
		131071: {full, full, {1, 1, 65534}},
		196605: {full, full, {1, 65535, 0}},
		196606: {full, full, full, {1, 1, 65534}},
		200000: {full, full, full, {1, 3395, 62140}},
	} {
		for _, b := range [][]byte{mixed(n), make([]byte, n)} {
			what := fmt.Sprint(n, " bytes")
			writes(t, what, deflate.Stored, b, slowStored(b))
			l, came := blocksOf(t, deflate.Stored(b))
			if !slices.Equal(l, want) {
				t.Errorf("%s: blocks %v, want %v", what, l, want)
			}
			holds(t, what, came, b)
			holds(t, what+", by the library", read(t, what, deflate.Stored(b)), b)
		}
	}
}

func TestStoredOfEachLength(t *testing.T) {
	all := mixed(700)
	for n := range len(all) {
		writes(t, fmt.Sprint(n, " bytes"), deflate.Stored, all[:n], slowStored(all[:n]))
	}
}

func TestStoredOfEachByte(t *testing.T) {
	b := rising(256)
	writes(t, "all 256", deflate.Stored, b, append([]byte{1, 0, 1, 255, 254}, b...))
}
