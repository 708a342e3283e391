package inflate_test

import (
	"bytes"
	"compress/zlib"
	"encoding/binary"
	"fmt"
	"hash/adler32"
	"math"
	"math/rand"
	"slices"
	"testing"

	"pressmark/api"
	"pressmark/inflate"
)

// unwrap asks Zlib, and that it leaves what it is handed.
func unwrap(t *testing.T, what string, b []byte, most int) answer {
	t.Helper()
	given := spared(b)
	came, n, e := inflate.Zlib(given, most)
	untouched(t, what, given, b)
	return answer{string(came), n, e}
}

// wrapped is blocks in a wrap, with the sum of what they make.
func wrapped(blocks []byte, came string) []byte {
	return binary.BigEndian.AppendUint32(append([]byte{120, 1}, blocks...), adler32.Checksum([]byte(came)))
}

// letters are blocks that make a text, and end within a byte.
func letters(text string) []byte {
	return (&row{}).begin(1, 1).letters(fixed(), text).end(fixed()).bytes(0)
}

// P4.3: what is well.

func TestZlib(t *testing.T) {
	for what, c := range map[string]struct {
		blocks []byte
		came   string
	}{
		"stored":     {(&row{}).stored(1, []byte("stored")).bytes(0), "stored"},
		"fixed":      {letters("fixed"), "fixed"},
		"nothing":    {(&row{}).stored(1, nil).bytes(0), ""},
		"no letters": {letters(""), ""},
		"ones":       {(&row{}).begin(1, 1).letters(fixed(), "ones").end(fixed()).bytes(1), "ones"},
		"two blocks": {(&row{}).begin(0, 1).letters(fixed(), "two").end(fixed()).stored(1, []byte("blocks")).bytes(0), "twoblocks"},
		"65535":      {(&row{}).stored(1, mixed(65535)).bytes(0), string(mixed(65535))},
	} {
		b := wrapped(c.blocks, c.came)
		for _, most := range []int{len(c.came), len(c.came) + 1, plenty, math.MaxInt} {
			holds(t, what, unwrap(t, what, b, most), answer{c.came, len(b), api.OK})
		}
		// What stands behind the sum is not counted.
		for more := 1; more < 9; more++ {
			long := append(bytes.Clone(b), bytes.Repeat([]byte{0xA5}, more)...)
			holds(t, what+", bytes behind", unwrap(t, what, long, len(c.came)), answer{c.came, len(b), api.OK})
		}
		for _, cut := range cuts(len(b) - 1) {
			holds(t, what+", cut", unwrap(t, what, b[:cut], plenty), answer{e: api.ErrShort})
		}
	}
}

func TestZlibOfWhatTheLibraryWrites(t *testing.T) {
	for name, text := range texts() {
		for _, level := range levels() {
			var w bytes.Buffer
			z, err := zlib.NewWriterLevel(&w, level)
			if err != nil {
				t.Fatal(err)
			}
			z.Write(text)
			z.Close()
			what := fmt.Sprintf("%s, level %d", name, level)
			b := w.Bytes()
			holds(t, what, unwrap(t, what, b, len(text)), answer{string(text), len(b), api.OK})
			holds(t, what, unwrap(t, what, b[:len(b)-1], len(text)), answer{e: api.ErrShort})
			wrong := bytes.Clone(b)
			wrong[len(b)-1]++
			holds(t, what, unwrap(t, what, wrong, len(text)), answer{e: api.ErrSum})
			if len(text) > 0 {
				holds(t, what, unwrap(t, what, b, len(text)-1), answer{e: api.ErrLimit})
			}
		}
	}
}

// P4.3: the header.

func TestFewerThanTwoBytes(t *testing.T) {
	for _, most := range []int{math.MinInt, 0, 9} {
		holds(t, "nil", unwrap(t, "nil", nil, most), answer{e: api.ErrShort})
		holds(t, "no byte", unwrap(t, "no byte", []byte{}, most), answer{e: api.ErrShort})
		for c := range 256 {
			// Of one byte nothing is asked but that there is another.
			holds(t, "one byte", unwrap(t, "one byte", []byte{byte(c)}, most), answer{e: api.ErrShort})
		}
	}
}

func TestEachHeader(t *testing.T) {
	good := wrapped(letters("a"), "a")
	well := 0
	for first := range 256 {
		for second := range 256 {
			want := answer{"a", len(good), api.OK}
			if first%16 != 8 || first/16 > 7 || (256*first+second)%31 != 0 || second/32%2 == 1 {
				want = answer{e: api.ErrForm}
			} else {
				well++
			}
			b := slices.Concat([]byte{byte(first), byte(second)}, good[2:])
			holds(t, fmt.Sprint("header ", first, second), unwrap(t, "header", b, 1), want)
			// Alone it is asked, too, ahead of what is to follow.
			want = answer{e: max(want.e, api.ErrShort)}
			holds(t, fmt.Sprint("header alone ", first, second), unwrap(t, "header", b[:2], 1), want)
		}
	}
	// Of each of 8 windows there is one for each of 4 levels.
	if well != 32 {
		t.Errorf("%d headers are well, want 32", well)
	}
}

func TestHeaderIsAskedFirst(t *testing.T) {
	for what, head := range map[string][]byte{
		"kind 7":       {0x77, 0x09},
		"window 8":     {0x88, 0x1C},
		"no 31":        {0x78, 0x02},
		"preset":       {0x78, 0x20},
		"both noughts": {0, 0},
	} {
		for _, rest := range [][]byte{{}, {7}, letters("a"), wrapped(letters("a"), "b")[2:], {1, 0, 0, 0, 0}} {
			for _, most := range []int{-1, 0, 9} {
				holds(t, what, unwrap(t, what, slices.Concat(head, rest), most), answer{e: api.ErrForm})
			}
		}
	}
}

// P4.3: then what Blocks answers.

func TestZlibAnswersWhatBlocksDoes(t *testing.T) {
	g := fixed()
	for what, c := range map[string]struct {
		row  *row
		most int
		e    api.Errno
	}{
		"nothing":         {&row{}, 9, api.ErrShort},
		"kind 3":          {(&row{}).begin(1, 3), 9, api.ErrForm},
		"not turned":      {(&row{}).begin(1, 0).align(0).low(1, 16).low(1, 16), 9, api.ErrForm},
		"too far":         {(&row{}).begin(1, 1).again(g, 3, 1), 9, api.ErrForm},
		"no end":          {(&row{}).begin(1, 1).letters(g, "abc"), 9, api.ErrShort},
		"too many":        {(&row{}).begin(1, 1).letters(g, "abc").end(g), 2, api.ErrLimit},
		"one, most below": {(&row{}).begin(1, 1).letters(g, "a").end(g), -1, api.ErrLimit},
		"too many stored": {(&row{}).stored(1, []byte("abc")), 2, api.ErrLimit},
	} {
		b := append([]byte{120, 156}, c.row.bytes(1)...)
		holds(t, what, unwrap(t, what, b, c.most), answer{e: c.e})
	}
	// A limit is met ahead of what is missing, or wrong, behind the blocks.
	b := wrapped(letters("abc"), "abd")
	for cut := range 5 {
		holds(t, "too many", unwrap(t, "too many", b[:len(b)-cut], 2), answer{e: api.ErrLimit})
	}
}

// P4.3: the sum.

func TestFewerThanFourBytesBehind(t *testing.T) {
	for _, blocks := range [][]byte{letters("abc"), (&row{}).stored(1, []byte("abc")).bytes(0)} {
		for _, sum := range []string{"", "\x02", "\x02\x4d", "\x02\x4d\x01", "\xff", "\xff\xff\xff"} {
			b := slices.Concat([]byte{120, 1}, blocks, []byte(sum))
			holds(t, "no whole sum", unwrap(t, "no whole sum", b, 3), answer{e: api.ErrShort})
		}
	}
}

func TestWrongSum(t *testing.T) {
	for _, text := range []string{"", "a", "abc", string(mixed(3000))} {
		b := wrapped(letters(text), text)
		holds(t, "the sum", unwrap(t, "the sum", b, len(text)), answer{text, len(b), api.OK})
		for bit := range 32 {
			wrong := bytes.Clone(b)
			wrong[len(b)-1-bit/8] ^= 1 << (bit % 8)
			holds(t, "a bit of the sum is turned", unwrap(t, "a wrong sum", wrong, len(text)), answer{e: api.ErrSum})
			holds(t, "bytes behind a wrong sum", unwrap(t, "a wrong sum", append(wrong, b[len(b)-4:]...), len(text)), answer{e: api.ErrSum})
		}
		other := bytes.Clone(b)
		slices.Reverse(other[len(b)-4:])
		holds(t, "the sum, the lowest first", unwrap(t, "a wrong sum", other, len(text)), answer{e: api.ErrSum})
	}
}

func TestSumIsOfWhatCame(t *testing.T) {
	// Neither of the blocks' bytes, nor of a part of what came.
	text := "abcabcabc"
	blocks := (&row{}).begin(0, 1).letters(fixed(), "abc").again(fixed(), 3, 3).end(fixed()).stored(1, []byte("abc")).bytes(0)
	for what, of := range map[string]string{
		"the blocks' bytes":   string(blocks),
		"the first block":     "abcabc",
		"the last block":      "abc",
		"the letters":         "abcabc",
		"nothing":             "",
		"what came, and more": text + "a",
	} {
		holds(t, "the sum of "+what, unwrap(t, what, wrapped(blocks, of), 9), answer{e: api.ErrSum})
	}
	b := wrapped(blocks, text)
	holds(t, "the sum of what came", unwrap(t, "what came", b, 9), answer{text, len(b), api.OK})
}

func TestSumStandsBehindAWholeByte(t *testing.T) {
	for shift := range 8 {
		for fill := range byte(2) {
			b := wrapped(ahead(shift).begin(1, 1).letters(fixed(), "a").end(fixed()).bytes(fill), "a")
			holds(t, "a sum behind a byte that was begun", unwrap(t, "a sum", b, 1), answer{"a", len(b), api.OK})
		}
	}
}

// R4: what is answered is new memory.

func TestZlibAnswersNewMemory(t *testing.T) {
	b := wrapped((&row{}).stored(1, []byte("stored")).bytes(0), "stored")
	given := spared(b)
	one, _, _ := inflate.Zlib(given, 9)
	two, _, _ := inflate.Zlib(given, 9)
	one = one[:cap(one)]
	for i := range one {
		one[i] = 0x11
	}
	untouched(t, "what is answered", given, b)
	clear(given)
	if string(two) != "stored" {
		t.Error("an answer shares memory with another, or with what was handed in")
	}
}

// P4.3, all of it, as by the chapter's words.

// slowZlib is what Zlib has to answer.
func slowZlib(b []byte, most int) answer {
	if len(b) < 2 {
		return answer{e: api.ErrShort}
	}
	if b[0]%16 != 8 || b[0]/16 > 7 || binary.BigEndian.Uint16(b)%31 != 0 || b[1]/32%2 == 1 {
		return answer{e: api.ErrForm}
	}
	a := slowBlocks(b[2:], most)
	if a.e != api.OK {
		return a
	}
	sum := b[2+a.n:]
	if len(sum) < 4 {
		return answer{e: api.ErrShort}
	}
	if binary.BigEndian.Uint32(sum) != adler32.Checksum([]byte(a.came)) {
		return answer{e: api.ErrSum}
	}
	a.n += 6
	return a
}

func TestZlibByChance(t *testing.T) {
	m := maker{rand.New(rand.NewSource(1950))}
	count := map[api.Errno]int{}
	for range 300 {
		blocks := m.blocks().bytes(0)
		b := wrapped(blocks, slowBlocks(blocks, plenty).came)
		for i := range 6 {
			c := bytes.Clone(b)
			if i > 2 {
				c[m.Intn(len(c))] ^= 1 << m.Intn(8)
			}
			if i%3 == 1 {
				c = c[:m.Intn(len(c))]
			}
			if i == 5 {
				c[len(c)-1-m.Intn(4)]++
			}
			most := m.Intn(200) + plenty*m.Intn(2)
			got, want := unwrap(t, "by chance", c, most), slowZlib(c, most)
			holds(t, fmt.Sprintf("Zlib(% x, %d)", c, most), got, want)
			count[got.e]++
		}
	}
	for _, e := range []api.Errno{api.OK, api.ErrShort, api.ErrForm, api.ErrLimit, api.ErrSum} {
		if count[e] < 50 {
			t.Errorf("%v is met %d times: too few to tell", e, count[e])
		}
	}
}

// FuzzZlib holds Zlib against slowZlib, as go test -fuzz asks.
func FuzzZlib(f *testing.F) {
	f.Add(wrapped(letters("abc"), "abc"), 3)
	f.Add(wrapped(letters("abc"), "abd"), 3)
	f.Add([]byte{120, 1}, -1)
	f.Fuzz(func(t *testing.T, b []byte, most int) {
		most = min(most, plenty)
		holds(t, fmt.Sprintf("Zlib(% x, %d)", b, most), unwrap(t, "bytes", b, most), slowZlib(b, most))
	})
}
