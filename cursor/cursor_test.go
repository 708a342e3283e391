package cursor_test

import (
	"bytes"
	"math"
	"testing"

	"pressmark/cursor"
)

// farOff are places and numbers that no short text has, the ones at which a sum wraps round among them.
var farOff = []int{math.MinInt, math.MinInt + 1, -1 << 31, 1 << 31, math.MaxInt - 1, math.MaxInt}

// at is a cursor of text that stands at place.
func at(t *testing.T, text string, place int) *cursor.Cursor {
	t.Helper()
	c := cursor.New([]byte(text))
	if !c.Seek(place) {
		t.Fatalf("Seek(%d) in %q is refused", place, text)
	}
	return c
}

// stands says where c must stand.
func stands(t *testing.T, what string, c *cursor.Cursor, pos, size int) {
	t.Helper()
	if c.Pos() != pos || c.Len() != size || c.Left() != size-pos {
		t.Errorf("%s: Pos %d, Len %d, Left %d, want %d, %d, %d", what, c.Pos(), c.Len(), c.Left(), pos, size, size-pos)
	}
}

// spared is text with room behind it that is filled with 0xEE.
func spared(text string) []byte {
	b := bytes.Repeat([]byte{0xEE}, len(text)+16)
	copy(b, text)
	return b[:len(text)]
}

// untouched says that b is still spared(text), its spare room too.
func untouched(t *testing.T, what string, b []byte, text string) {
	t.Helper()
	if want := spared(text); !bytes.Equal(b[:cap(b)], want[:cap(want)]) {
		t.Errorf("%s: what was handed in is changed: %v", what, b[:cap(b)])
	}
}

// scribble writes over b and its spare room.
func scribble(b []byte) {
	b = b[:cap(b)]
	for i := range b {
		b[i] = 0x11
	}
}

func TestExamples(t *testing.T) {
	c := cursor.New([]byte("abc"))
	if n := c.Next(); n != 97 {
		t.Errorf("Next: %d, want 97", n)
	}
	if n := c.Peek(0); n != 98 {
		t.Errorf("Peek(0): %d, want 98", n)
	}
	if n := c.Peek(-1); n != 97 {
		t.Errorf("Peek(-1): %d, want 97", n)
	}
	if c.Match("bd") {
		t.Error(`Match("bd"): true`)
	}
	if !c.Match("bc") {
		t.Error(`Match("bc"): false`)
	}
	if n := c.Next(); n != -1 {
		t.Errorf("Next at the end: %d, want -1", n)
	}
	if n := cursor.Find([]byte("abab"), "ab", 1); n != 2 {
		t.Errorf("Find: %d, want 2", n)
	}
	if n := cursor.Last([]byte("abab"), "ab"); n != 2 {
		t.Errorf("Last: %d, want 2", n)
	}
	if n := cursor.Find([]byte("a"), "", 1); n != 1 {
		t.Errorf("Find of an empty text: %d, want 1", n)
	}
}

// P1.1: Pos, Len, Left, Next.

func TestNextWalksToTheEnd(t *testing.T) {
	text := "\x00a\x80\xff"
	c := cursor.New([]byte(text))
	for i := range len(text) {
		stands(t, "ahead of Next", c, i, len(text))
		if n := c.Next(); n != int(text[i]) {
			t.Errorf("Next at %d: %d, want %d", i, n, text[i])
		}
	}
	for range 3 {
		if n := c.Next(); n != -1 {
			t.Errorf("Next at the end: %d, want -1", n)
		}
		stands(t, "Next at the end", c, len(text), len(text))
	}
}

func TestNoBytes(t *testing.T) {
	for what, c := range map[string]*cursor.Cursor{"nil bytes": cursor.New(nil), "no bytes": cursor.New([]byte{}), "zero value": {}} {
		stands(t, what, c, 0, 0)
		if c.Peek(0) != -1 || c.Peek(-1) != -1 || c.Next() != -1 {
			t.Errorf("%s: a byte is there", what)
		}
		if !c.Seek(0) || c.Seek(1) || c.Seek(-1) {
			t.Errorf("%s: Seek", what)
		}
		if b, ok := c.Take(0); !ok || len(b) != 0 {
			t.Errorf("%s: Take(0): %v, %v", what, b, ok)
		}
		if !c.Match("") || c.Match("a") {
			t.Errorf("%s: Match", what)
		}
		if n, ok := c.Word(1); ok || n != 0 {
			t.Errorf("%s: Word(1): %d, %v", what, n, ok)
		}
		stands(t, what, c, 0, 0)
	}
}

// P1.1: Peek.

func TestPeekBothWays(t *testing.T) {
	text := "\x00bc\xff"
	for pos := range len(text) + 1 {
		c := at(t, text, pos)
		for i := -6; i <= 6; i++ {
			want := -1
			if p := pos + i; p >= 0 && p < len(text) {
				want = int(text[p])
			}
			if n := c.Peek(i); n != want {
				t.Errorf("Peek(%d) at %d: %d, want %d", i, pos, n, want)
			}
		}
		for _, i := range farOff {
			if n := c.Peek(i); n != -1 {
				t.Errorf("Peek(%d) at %d: %d, want -1", i, pos, n)
			}
		}
		stands(t, "behind Peek", c, pos, len(text))
	}
}

func TestPeekLeavesSpareRoomAlone(t *testing.T) {
	c := cursor.New(spared("ab"))
	if n := c.Peek(2); n != -1 {
		t.Errorf("Peek behind the end: %d, want -1", n)
	}
}

// P1.1: Seek.

func TestSeek(t *testing.T) {
	for from := range 4 {
		for to := -3; to <= 6; to++ {
			c := at(t, "abc", from)
			may := to >= 0 && to <= 3
			if ok := c.Seek(to); ok != may {
				t.Errorf("Seek(%d) from %d: %v, want %v", to, from, ok, may)
			}
			if may {
				stands(t, "Seek", c, to, 3)
			} else {
				stands(t, "Seek refused", c, from, 3)
			}
		}
		c := at(t, "abc", from)
		for _, to := range farOff {
			if c.Seek(to) {
				t.Errorf("Seek(%d): true", to)
			}
			stands(t, "Seek far off", c, from, 3)
		}
	}
}

// P1.1: Take.

func TestTake(t *testing.T) {
	text := "abcd"
	for pos := range len(text) + 1 {
		for n := -2; n <= 6; n++ {
			c := at(t, text, pos)
			b, ok := c.Take(n)
			if n < 0 || pos+n > len(text) {
				if ok || len(b) != 0 {
					t.Errorf("Take(%d) at %d: %q, %v, want nothing", n, pos, b, ok)
				}
				stands(t, "Take refused", c, pos, len(text))
				continue
			}
			if !ok || string(b) != text[pos:pos+n] {
				t.Errorf("Take(%d) at %d: %q, %v, want %q", n, pos, b, ok, text[pos:pos+n])
			}
			stands(t, "Take", c, pos+n, len(text))
		}
		c := at(t, text, pos)
		for _, n := range farOff {
			if b, ok := c.Take(n); ok || len(b) != 0 {
				t.Errorf("Take(%d) at %d: %q, %v, want nothing", n, pos, b, ok)
			}
			stands(t, "Take far off", c, pos, len(text))
		}
	}
}

func TestTakeIsNewMemory(t *testing.T) {
	b := spared("abcd")
	c := cursor.New(b)
	first, _ := c.Take(2)
	again := at(t, "", 0)
	*again = *c
	c.Seek(0)
	second, _ := c.Take(4)
	third, _ := again.Take(2)
	scribble(first)
	untouched(t, "Take", b, "abcd")
	if string(second) != "abcd" || string(third) != "cd" {
		t.Errorf("answers share memory: %q, %q", second, third)
	}
	scribble(second)
	untouched(t, "Take of all", b, "abcd")
	if string(third) != "cd" {
		t.Errorf("answers share memory: %q", third)
	}
	c.Seek(4)
	none, _ := c.Take(0)
	scribble(none)
	untouched(t, "Take of none", b, "abcd")
}

// P1.1: Match.

func TestMatch(t *testing.T) {
	text := "aab\xff"
	tries := []string{"", "a", "aa", "aab", "aab\xff", "aab\xff\xee", "ab", "b", "\xff", "\xff\xee", "\xee", "A", "aaa", "ÿ"}
	for pos := range len(text) + 1 {
		for _, s := range tries {
			c := cursor.New(spared(text))
			c.Seek(pos)
			want := len(s) <= len(text)-pos && text[pos:pos+len(s)] == s
			if ok := c.Match(s); ok != want {
				t.Errorf("Match(%q) at %d: %v, want %v", s, pos, ok, want)
			}
			if want {
				stands(t, "Match", c, pos+len(s), len(text))
			} else {
				stands(t, "Match refused", c, pos, len(text))
			}
		}
	}
}

// P1.1: Word.

func TestWordWidths(t *testing.T) {
	text := "\x01\x02\x03\x04\x05\x06\x07\x08\x09"
	want := map[int]int{1: 0x01, 2: 0x0102, 3: 0x010203, 4: 0x01020304, 5: 0x0102030405, 6: 0x010203040506, 7: 0x01020304050607}
	for _, width := range append([]int{-1, 0, 1, 2, 3, 4, 5, 6, 7, 8, 9, 10}, farOff...) {
		c := cursor.New([]byte(text))
		w, may := want[width]
		if n, ok := c.Word(width); ok != may || n != w {
			t.Errorf("Word(%d): %#x, %v, want %#x, %v", width, n, ok, w, may)
		}
		if may {
			stands(t, "Word", c, width, len(text))
		} else {
			stands(t, "Word refused", c, 0, len(text))
		}
	}
}

func TestWordHighBytes(t *testing.T) {
	c := cursor.New(bytes.Repeat([]byte{0xFF}, 7))
	if n, ok := c.Word(7); !ok || n != 1<<56-1 {
		t.Errorf("Word(7) of 255s: %d, %v, want %d", n, ok, 1<<56-1)
	}
	c = cursor.New([]byte{0, 0x80, 0, 0x80})
	if n, ok := c.Word(4); !ok || n != 0x800080 {
		t.Errorf("Word(4): %#x, %v", n, ok)
	}
}

func TestWordNearTheEnd(t *testing.T) {
	for left := range 8 {
		for width := 1; width <= 7; width++ {
			c := cursor.New(spared("\x09\x09\x01\x02\x03\x04\x05\x06\x07")[:2+left])
			c.Seek(2)
			n, ok := c.Word(width)
			if width > left {
				if ok || n != 0 {
					t.Errorf("Word(%d) of %d left: %d, %v, want nothing", width, left, n, ok)
				}
				stands(t, "Word too wide", c, 2, 2+left)
				continue
			}
			want := 0
			for i := 1; i <= width; i++ {
				want = want*256 + i
			}
			if !ok || n != want {
				t.Errorf("Word(%d) of %d left: %d, %v, want %d", width, left, n, ok, want)
			}
			stands(t, "Word", c, 2+width, 2+left)
		}
	}
}

// P1.1 by R4, R5, R7: what is handed in stays, cursors do not know of one another, nil.

func TestCursorLeavesItsBytes(t *testing.T) {
	b := spared("abcdefgh")
	c := cursor.New(b)
	c.Next()
	c.Peek(1)
	c.Match("bc")
	c.Match("xx")
	c.Word(2)
	c.Word(8)
	c.Take(3)
	c.Take(1)
	c.Seek(0)
	c.Take(8)
	untouched(t, "a cursor", b, "abcdefgh")
}

func TestCursorsOfOneList(t *testing.T) {
	b := []byte("abc")
	one, two := cursor.New(b), cursor.New(b)
	one.Next()
	one.Next()
	stands(t, "the one", one, 2, 3)
	stands(t, "the other", two, 0, 3)
	if n := two.Next(); n != 'a' {
		t.Errorf("the other's Next: %d, want 97", n)
	}
}

func TestNilCursor(t *testing.T) {
	var c *cursor.Cursor
	stands(t, "nil", c, 0, 0)
	for _, n := range append([]int{-2, -1, 0, 1, 2, 7, 8}, farOff...) {
		if p := c.Peek(n); p != -1 {
			t.Errorf("Peek(%d) of nil: %d, want -1", n, p)
		}
		if c.Seek(n) {
			t.Errorf("Seek(%d) of nil: true", n)
		}
		if b, ok := c.Take(n); ok || len(b) != 0 {
			t.Errorf("Take(%d) of nil: %v, %v", n, b, ok)
		}
		if w, ok := c.Word(n); ok || w != 0 {
			t.Errorf("Word(%d) of nil: %d, %v", n, w, ok)
		}
	}
	if n := c.Next(); n != -1 {
		t.Errorf("Next of nil: %d, want -1", n)
	}
	if c.Match("") || c.Match("a") {
		t.Error("Match of nil: true")
	}
}

// reader embeds a cursor, as those of later stages do.
type reader struct {
	*cursor.Cursor
	met int
}

// Next hides the cursor's.
func (r *reader) Next() int {
	r.met++
	return r.Cursor.Next()
}

func TestEmbedded(t *testing.T) {
	r := &reader{Cursor: cursor.New([]byte("ab\x01\x02cd"))}
	if !r.Match("a") || r.Next() != 'b' || r.Peek(0) != 1 || r.Peek(-2) != 'a' {
		t.Error("promoted Match, Peek")
	}
	if n, ok := r.Word(2); !ok || n != 258 {
		t.Errorf("promoted Word: %d, %v", n, ok)
	}
	stands(t, "promoted", r.Cursor, 4, 6)
	if b, ok := r.Take(2); !ok || string(b) != "cd" || r.Left() != 0 {
		t.Errorf("promoted Take: %q, %v", b, ok)
	}
	if !r.Seek(1) || r.Pos() != 1 || r.Len() != 6 || r.Next() != 'b' || r.met != 2 {
		t.Error("promoted Seek, Pos, Len")
	}
}

// P1.2: Find, Last.

// words are all texts of at most size signs of ab.
func words(size int) []string {
	all := []string{""}
	for i := 0; i < len(all); i++ {
		if len(all[i]) < size {
			all = append(all, all[i]+"a", all[i]+"b")
		}
	}
	return all
}

// at which places s stands in text, by trying each.
func places(text, s string) []int {
	var l []int
	for p := 0; p+len(s) <= len(text); p++ {
		if text[p:p+len(s)] == s {
			l = append(l, p)
		}
	}
	return l
}

func TestFindAndLastTryAll(t *testing.T) {
	for _, text := range words(5) {
		for _, s := range words(3) {
			l := places(text, s)
			last := -1
			if len(l) > 0 {
				last = l[len(l)-1]
			}
			if n := cursor.Last(spared(text), s); n != last {
				t.Errorf("Last(%q, %q): %d, want %d", text, s, n, last)
			}
			for from := -2; from <= len(text)+2; from++ {
				want := -1
				for i := len(l) - 1; i >= 0 && l[i] >= from; i-- {
					want = l[i]
				}
				if n := cursor.Find(spared(text), s, from); n != want {
					t.Errorf("Find(%q, %q, %d): %d, want %d", text, s, from, n, want)
				}
			}
		}
	}
}

func TestFindFarOff(t *testing.T) {
	for _, from := range farOff {
		want, none := -1, -1
		if from < 0 {
			want, none = 1, 0
		}
		if n := cursor.Find([]byte("abab"), "ba", from); n != want {
			t.Errorf("Find from %d: %d, want %d", from, n, want)
		}
		if n := cursor.Find([]byte("abab"), "", from); n != none {
			t.Errorf("Find of an empty text from %d: %d, want %d", from, n, none)
		}
	}
}

func TestFindInNothing(t *testing.T) {
	if cursor.Find(nil, "a", 0) != -1 || cursor.Find(nil, "", 0) != 0 || cursor.Find(nil, "", -1) != 0 || cursor.Find(nil, "", 1) != -1 {
		t.Error("Find in nil")
	}
	if cursor.Last(nil, "a") != -1 || cursor.Last(nil, "") != 0 || cursor.Last([]byte("ab"), "") != 2 {
		t.Error("Last in nil, or of an empty text")
	}
}

func TestFindAnyBytes(t *testing.T) {
	b := []byte("\x00\xff\x80\x00\xff\x80\x00")
	if n := cursor.Find(b, "\xff\x80", 2); n != 4 {
		t.Errorf("Find: %d, want 4", n)
	}
	if n := cursor.Last(b, "\x00\xff"); n != 3 {
		t.Errorf("Last: %d, want 3", n)
	}
	if cursor.Find(b, "ÿ", 0) != -1 || cursor.Last(b, "\uFFFD") != -1 {
		t.Error("a byte is taken for a sign of UTF-8")
	}
}

func TestFindLongTexts(t *testing.T) {
	s := string(bytes.Repeat([]byte("a"), 200)) + "b"
	b := cursor.Of(bytes.Repeat([]byte("a"), 3000), []byte("b"), bytes.Repeat([]byte("a"), 3000), []byte("b"), bytes.Repeat([]byte("a"), 199))
	if n := cursor.Find(b, s, 0); n != 2800 {
		t.Errorf("Find: %d, want 2800", n)
	}
	if n := cursor.Find(b, s, 2801); n != 5801 {
		t.Errorf("Find from 2801: %d, want 5801", n)
	}
	if n := cursor.Last(b, s); n != 5801 {
		t.Errorf("Last: %d, want 5801", n)
	}
	if cursor.Find(b, s, 5802) != -1 || cursor.Last(b, s+"b") != -1 {
		t.Error("found what does not stand there")
	}
}

func TestFindLeavesItsBytes(t *testing.T) {
	b := spared("abab")
	cursor.Find(b, "b", 1)
	cursor.Find(b, "x", -1)
	cursor.Last(b, "a")
	cursor.Last(b, "\xee")
	untouched(t, "Find and Last", b, "abab")
}

// P1.2: Of.

func TestOf(t *testing.T) {
	for want, parts := range map[string][][]byte{
		"":          nil,
		"a":         {[]byte("a")},
		"abc":       {[]byte("a"), nil, []byte("bc"), {}},
		"bcabc":     {nil, []byte("bc"), []byte("a"), []byte("bc")},
		"\x00\xff ": {{0}, {255}, []byte(" ")},
	} {
		if b := cursor.Of(parts...); string(b) != want {
			t.Errorf("Of(%q): %q", parts, b)
		}
	}
	if len(cursor.Of()) != 0 || len(cursor.Of(nil)) != 0 || len(cursor.Of(nil, []byte{})) != 0 {
		t.Error("Of no bytes: some")
	}
}

func TestOfIsNewMemory(t *testing.T) {
	a, b := spared("ab"), spared("cd")
	parts := [][]byte{a, b, nil}
	one, two, three, none := cursor.Of(a), cursor.Of(parts[:2]...), cursor.Of(nil, b), cursor.Of(a[:0])
	scribble(one)
	scribble(none)
	untouched(t, "Of one part", a, "ab")
	if string(two) != "abcd" || string(three) != "cd" {
		t.Errorf("answers share memory: %q, %q", two, three)
	}
	scribble(two)
	scribble(three)
	untouched(t, "Of parts, the first", a, "ab")
	untouched(t, "Of parts, the second", b, "cd")
	if &parts[0][0] != &a[0] || &parts[1][0] != &b[0] || len(parts[0]) != 2 || len(parts[1]) != 2 || parts[2] != nil {
		t.Error("the list of parts is changed")
	}
}
