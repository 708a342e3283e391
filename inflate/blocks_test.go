package inflate_test

import (
	"bytes"
	"fmt"
	"math"
	"math/rand"
	"slices"
	"strings"
	"testing"

	"pressmark/api"
	"pressmark/inflate"
)

// mixed are n bytes of all kinds, the same ones each time.
func mixed(n int) []byte {
	b := make([]byte, n)
	rand.New(rand.NewSource(int64(n))).Read(b)
	return b
}

// again is text, and behind it n bytes that came so far ahead, one by one.
func again(text string, n, far int) string {
	b := []byte(text)
	for range n {
		b = append(b, b[len(b)-far])
	}
	return string(b)
}

// wide are the fixed tongue and a told one, both of all symbols and distances.
func wide() map[string]tongue {
	return map[string]tongue{"fixed": fixed(), "told": tongueOf(manySymbols(), manyDistances())}
}

// manySymbols are lengths of 286 symbols, 226 of 8 and 60 of 9, in turns: a full code.
func manySymbols() []int {
	l := slices.Repeat([]int{9}, 286)
	for i := range l {
		if i%19 < 15 {
			l[i] = 8
		}
	}
	return l
}

// manyDistances are lengths of 30 distances, 2 of 4 and 28 of 5: a full code.
func manyDistances() []int {
	l := slices.Repeat([]int{5}, 30)
	l[7], l[22] = 4, 4
	return l
}

// open begins a last block of either of the wide tongues.
func (r *row) open(name string) *row {
	if name == "fixed" {
		return r.begin(1, 1)
	}
	return r.tell(1, 286, 30, packed(manySymbols(), manyDistances()))
}

// P4.2: the example, and what ends ahead of its beginning.

func TestExample(t *testing.T) {
	holds(t, "the example", blocks(t, "the example", []byte{1, 1, 0, 254, 255, 97}, 9), answer{"a", 6, api.OK})
}

func TestNothing(t *testing.T) {
	for _, most := range []int{math.MinInt, -1, 0, 1, math.MaxInt} {
		holds(t, "nil", blocks(t, "nil", nil, most), answer{e: api.ErrShort})
		holds(t, "no byte", blocks(t, "no byte", []byte{}, most), answer{e: api.ErrShort})
	}
}

// P4.2: kind 3.

func TestKindThree(t *testing.T) {
	for last := range 2 {
		tells(t, "kind 3", plenty, "", api.ErrForm, func(r *row) { r.begin(last, 3) })
		tells(t, "kind 3, nothing may come", 0, "", api.ErrForm, func(r *row) { r.begin(last, 3) })
	}
	tells(t, "kind 3 behind a block", plenty, "", api.ErrForm, func(r *row) {
		r.begin(0, 1).letters(fixed(), "abc").end(fixed()).begin(1, 3)
	})
}

// P4.2: kind 0.

func TestStored(t *testing.T) {
	for _, n := range []int{0, 1, 2, 3, 7, 8, 15, 16, 254, 255, 256, 257, 511, 512, 4096, 32767, 32768, 65534, 65535} {
		if n > 600 {
			b := mixed(n)
			r := (&row{}).stored(1, b)
			holds(t, "stored", blocks(t, "stored", r.bytes(0), n), answer{string(b), n + 5, api.OK})
			holds(t, "stored, a byte less", blocks(t, "stored", r.bytes(0)[:n+4], n), answer{e: api.ErrShort})
			holds(t, "stored, most a byte less", blocks(t, "stored", r.bytes(0), n-1), answer{e: api.ErrLimit})
			continue
		}
		b := mixed(n)
		tells(t, fmt.Sprint("stored ", n), n, string(b), api.OK, func(r *row) { r.stored(1, b) })
	}
}

func TestStoredAtEachCut(t *testing.T) {
	b := (&row{}).stored(1, mixed(65535)).bytes(0)
	for _, cut := range cuts(len(b) - 1) {
		holds(t, "stored, cut", blocks(t, "stored, cut", b[:cut], plenty), answer{e: api.ErrShort})
	}
}

func TestStoredLeavesOutTheRestOfItsByte(t *testing.T) {
	for from := range 8 {
		for fill := range byte(2) {
			r := ahead(from).begin(1, 0).align(fill).low(2, 16).low(^2, 16).whole([]byte("ok"))
			b := r.bytes(0)
			holds(t, "what is left out", blocks(t, "what is left out", b, 9), answer{"ok", len(b), api.OK})
		}
	}
}

func TestStoredTurned(t *testing.T) {
	for _, n := range []int{0, 1, 3, 255, 256, 0x1234, 0x8000, 0xFFFF} {
		for bit := range 16 {
			tells(t, "a bit is not turned", plenty, "", api.ErrForm, func(r *row) {
				r.begin(1, 0).align(0).low(n, 16).low(^n^1<<bit, 16)
			})
		}
		for what, other := range map[string]int{"as it was": n, "with a minus": -n, "one less": ^n - 1} {
			tells(t, "not turned, "+what, plenty, "", api.ErrForm, func(r *row) {
				r.begin(1, 0).align(1).low(n, 16).low(other, 16)
			})
		}
	}
	tells(t, "its bytes in another order", plenty, "", api.ErrForm, func(r *row) {
		r.begin(1, 0).align(1).low(0x1234, 16).low(0xCBED, 16)
	})
	// It is asked ahead of all that is stored, and ahead of what may come.
	holds(t, "not turned", blocks(t, "not turned", []byte{1, 1, 0, 1, 0, 97}, 0), answer{e: api.ErrForm})
}

// P4.2: kind 1.

func TestFixedLetters(t *testing.T) {
	all := ""
	for c := range 256 {
		all += string([]byte{byte(c)})
		tells(t, "a letter", 1, all[c:], api.OK, func(r *row) { r.begin(1, 1).letters(fixed(), all[c:c+1]).end(fixed()) })
	}
	tells(t, "all letters", 256, all, api.OK, func(r *row) { r.begin(1, 1).letters(fixed(), all).end(fixed()) })
	tells(t, "no letter", 0, "", api.OK, func(r *row) { r.begin(1, 1).end(fixed()) })
}

// Kinds 1 and 2: lengths and distances.

func TestEachLength(t *testing.T) {
	for name, g := range wide() {
		for s, p := range lengths() {
			for _, more := range []int{0, 1, 1 << p.width / 2, 1<<p.width - 1} {
				if more >= 1<<p.width {
					continue
				}
				what := fmt.Sprintf("%s: a length of symbol %d, %d more", name, 257+s, more)
				want := again("ab", p.least+more, 2)
				build := func(r *row) {
					r.open(name).letters(g, "ab").text(g.symbols[257+s]).low(more, p.width).far(g, 2).end(g)
				}
				if name == "fixed" {
					tells(t, what, len(want), want, api.OK, build)
					continue
				}
				r := &row{}
				build(r)
				holds(t, what, blocks(t, what, r.bytes(0), len(want)), answer{want, len(r.bytes(0)), api.OK})
			}
		}
	}
}

func TestLongestInBothOfItsWays(t *testing.T) {
	g := fixed()
	want := again("a", 258, 1)
	tells(t, "258 by 284", 259, want, api.OK, func(r *row) {
		r.begin(1, 1).letters(g, "a").text(g.symbols[284]).low(31, 5).far(g, 1).end(g)
	})
	tells(t, "258 by 285", 259, want, api.OK, func(r *row) {
		r.begin(1, 1).letters(g, "a").text(g.symbols[285]).far(g, 1).end(g)
	})
}

func TestEachDistance(t *testing.T) {
	b := mixed(32768)
	for name, g := range wide() {
		for s, p := range distances() {
			for _, more := range []int{0, 1, 1 << p.width / 2, 1<<p.width - 1} {
				if more >= 1<<p.width {
					continue
				}
				for symbol, n := range map[int]int{257: 3, 285: 258} {
					what := fmt.Sprintf("%s: %d bytes by a distance of symbol %d, %d more", name, n, s, more)
					r := (&row{}).stored(0, b).open(name).text(g.symbols[symbol]).text(g.distances[s]).low(more, p.width).end(g)
					want := again(string(b), n, p.least+more)
					holds(t, what, blocks(t, what, r.bytes(1), len(want)), answer{want, len(r.bytes(1)), api.OK})
				}
			}
		}
	}
}

func TestFarthest(t *testing.T) {
	// 32768 bytes are the farthest, and they may be all that came.
	g := fixed()
	for _, size := range []int{32768, 32769, 65535} {
		b := mixed(size)
		r := (&row{}).stored(0, b).begin(1, 1).again(g, 258, 32768).end(g)
		want := again(string(b), 258, 32768)
		holds(t, "the farthest", blocks(t, "the farthest", r.bytes(0), plenty), answer{want, len(r.bytes(0)), api.OK})
	}
	r := (&row{}).stored(0, mixed(32767)).begin(1, 1).again(g, 258, 32768).end(g)
	holds(t, "one too far", blocks(t, "one too far", r.bytes(0), plenty), answer{e: api.ErrForm})
}

func TestCopyRunsIntoWhatItMakes(t *testing.T) {
	g := fixed()
	text := "abcdefghijklmnopqrstuvwxyz"
	for far := 1; far <= len(text); far++ {
		for _, n := range []int{3, 4, 5, 7, 10, 25, 26, 27, 52, 100, 257, 258} {
			r := (&row{}).begin(1, 1).letters(g, text).again(g, n, far).again(g, n, far).end(g)
			want := again(again(text, n, far), n, far)
			holds(t, "a copy", blocks(t, "a copy", r.bytes(0), plenty), answer{want, len(r.bytes(0)), api.OK})
		}
	}
}

func TestDistanceOneBeyondWhatCame(t *testing.T) {
	g := fixed()
	tells(t, "nothing came", plenty, "", api.ErrForm, func(r *row) { r.begin(1, 1).again(g, 3, 1) })
	tells(t, "nothing came", plenty, "", api.ErrForm, func(r *row) { r.begin(1, 1).again(g, 258, 32768) })
	for _, came := range []int{1, 2, 3, 4, 5, 6, 8, 12, 16, 24, 32, 48, 64, 96, 128, 192, 256, 512, 4096, 24576} {
		b := mixed(came)
		r := (&row{}).stored(0, b).begin(1, 1).again(g, 3, came).end(g)
		want := answer{again(string(b), 3, came), len(r.bytes(0)), api.OK}
		holds(t, "as far as what came", blocks(t, "as far", r.bytes(0), plenty), want)
		if came <= 32 {
			tells(t, "one beyond what came", plenty, "", api.ErrForm, func(r *row) { r.stored(0, b).begin(1, 1).again(g, 3, came+1) })
			continue
		}
		r = (&row{}).stored(0, b).begin(1, 1).again(g, 3, came+1).end(g)
		holds(t, "one beyond what came", blocks(t, "one beyond", r.bytes(0), plenty), answer{e: api.ErrForm})
	}
}

func TestFixedSymbolsThatAreNone(t *testing.T) {
	g := fixed()
	for _, s := range []int{286, 287} {
		tells(t, fmt.Sprint("symbol ", s), plenty, "", api.ErrForm, func(r *row) { r.begin(1, 1).text(g.symbols[s]) })
		tells(t, fmt.Sprint("symbol ", s), plenty, "", api.ErrForm, func(r *row) { r.begin(1, 1).letters(g, "ab").text(g.symbols[s]) })
	}
	for _, s := range []int{30, 31} {
		for i, p := range lengths() {
			tells(t, fmt.Sprint("distance ", s), plenty, "", api.ErrForm, func(r *row) {
				r.begin(1, 1).letters(g, "a").text(g.symbols[257+i]).low(0, p.width).text(g.distances[s])
			})
		}
	}
}

// P4.2: blocks one behind another.

func TestKindsBehindOneAnother(t *testing.T) {
	g := fixed()
	symbols, far := at(258, 'x', 2, 'y', 2, 256, 2, 257, 2), at(2, 1, 1)
	own := tongueOf(symbols, far)
	put := []func(r *row, last int){
		func(r *row, last int) { r.stored(last, []byte("xyz")) },
		func(r *row, last int) { r.begin(last, 1).letters(g, "xyy").again(g, 4, 2).end(g) },
		func(r *row, last int) {
			r.tell(last, 258, 2, packed(symbols, far)).letters(own, "yx").again(own, 3, 2).end(own)
		},
		func(r *row, last int) { r.stored(last, nil) },
	}
	makes := []string{"xyz", "xyyyyyy", "yxyxy", ""}
	for i := range put {
		for j := range put {
			for k := range put {
				want := makes[i] + makes[j] + makes[k]
				tells(t, fmt.Sprint("kinds ", i, j, k), len(want), want, api.OK, func(r *row) {
					put[i](r, 0)
					put[j](r, 0)
					put[k](r, 1)
				})
				tells(t, fmt.Sprint("what stands behind the last one, ", i, j, k), plenty, makes[i], api.OK, func(r *row) {
					put[i](r, 1)
				})
			}
		}
	}
}

func TestCopiesReachIntoOtherBlocks(t *testing.T) {
	g := fixed()
	tells(t, "a copy of another block", plenty, "abcdabcabcdab", api.OK, func(r *row) {
		r.stored(0, []byte("ab")).begin(0, 1).letters(g, "cd").end(g).begin(0, 1).again(g, 3, 4).end(g).begin(1, 1).again(g, 6, 7).end(g)
	})
}

func TestManyBlocks(t *testing.T) {
	g := fixed()
	r, want := &row{}, ""
	for i := range 3000 {
		text := strings.Repeat(string(rune('a'+i%26)), i%5)
		want += text
		if i%3 == 0 {
			r.stored(0, []byte(text))
		} else {
			r.begin(0, 1).letters(g, text).end(g)
		}
	}
	r.begin(1, 1).end(g)
	holds(t, "many blocks", blocks(t, "many blocks", r.bytes(0), len(want)), answer{want, len(r.bytes(0)), api.OK})
}

func TestWhatStandsBehindIsNotCounted(t *testing.T) {
	g := fixed()
	for shift := range 8 {
		r := ahead(shift).begin(1, 1).letters(g, "a").end(g)
		n := len(r.bytes(0))
		for more := range 20 {
			b := append(r.bytes(1), bytes.Repeat([]byte{0x5A}, more)...)
			holds(t, "bytes behind", blocks(t, "bytes behind", b, 1), answer{"a", n, api.OK})
		}
	}
}

// P4.2: ErrLimit.

func TestLimitAtEachByte(t *testing.T) {
	g := fixed()
	symbols, far := at(259, 'p', 3, 'q', 3, 256, 2, 257, 2, 258, 2), at(1, 0, 1)
	own := tongueOf(symbols, far)
	r := ahead(5).stored(0, []byte("stored")).begin(0, 1).letters(g, "fixed").again(g, 11, 5).letters(g, "!").end(g)
	r.tell(0, 259, 1, packed(symbols, far)).letters(own, "pq").again(own, 4, 1).letters(own, "p").end(own)
	r.stored(0, nil).stored(1, []byte("more"))
	want := "storedfixedfixedfixedf!pqqqqqpmore"
	b := r.bytes(0)
	for most := -3; most < len(want)+3; most++ {
		if most < len(want) {
			holds(t, fmt.Sprint("most ", most), blocks(t, "most", b, most), answer{e: api.ErrLimit})
			continue
		}
		holds(t, fmt.Sprint("most ", most), blocks(t, "most", b, most), answer{want, len(b), api.OK})
	}
	holds(t, "the least most", blocks(t, "most", b, math.MinInt), answer{e: api.ErrLimit})
	holds(t, "the greatest most", blocks(t, "most", b, math.MaxInt), answer{want, len(b), api.OK})
}

func TestLimitIsToldWhereItIsMet(t *testing.T) {
	g := fixed()
	for _, most := range []int{math.MinInt, -1, 0} {
		tells(t, "a letter, most 0", most, "", api.ErrLimit, func(r *row) { r.begin(1, 1).letters(g, "a") })
		tells(t, "a stored byte, most 0", most, "", api.ErrLimit, func(r *row) {
			r.begin(1, 0).align(0).low(9, 16).low(^9, 16).low('a', 8)
		})
		tells(t, "nothing, most 0", most, "", api.OK, func(r *row) { r.begin(0, 1).end(g).stored(0, nil).begin(1, 1).end(g) })
	}
	tells(t, "a letter", 2, "", api.ErrLimit, func(r *row) { r.begin(1, 1).letters(g, "ab\xff") })
	tells(t, "stored bytes", 3, "", api.ErrLimit, func(r *row) {
		r.begin(0, 0).align(0).low(9, 16).low(^9, 16).whole([]byte("abcd"))
	})
	for most := 2; most < 2+258; most++ {
		tells(t, fmt.Sprint("a copy, most ", most), most, "", api.ErrLimit, func(r *row) { r.begin(1, 1).letters(g, "ab").again(g, 258, 2) })
	}
	tells(t, "a copy, just as many", 260, again("ab", 258, 2), api.OK, func(r *row) { r.begin(1, 1).letters(g, "ab").again(g, 258, 2).end(g) })
}

// P4.2: of several errors the one that is met first.

func TestFirstOfSeveral(t *testing.T) {
	g := fixed()
	for what, c := range map[string]struct {
		most  int
		e     api.Errno
		build func(r *row)
	}{
		"a limit ahead of kind 3": {2, api.ErrLimit, func(r *row) { r.begin(0, 1).letters(g, "abc").end(g).begin(1, 3) }},
		"kind 3 ahead of a limit": {2, api.ErrForm, func(r *row) {
			r.begin(0, 1).letters(g, "ab").end(g).begin(1, 3).letters(g, "c")
		}},
		"a limit ahead of 286":            {0, api.ErrLimit, func(r *row) { r.begin(1, 1).letters(g, "a").text(g.symbols[286]) }},
		"286 ahead of a limit":            {0, api.ErrForm, func(r *row) { r.begin(1, 1).text(g.symbols[286]).letters(g, "a") }},
		"a limit ahead of a distance":     {1, api.ErrLimit, func(r *row) { r.begin(1, 1).letters(g, "ab").again(g, 3, 9) }},
		"too far a copy, and a limit":     {1, api.ErrForm, func(r *row) { r.begin(1, 1).letters(g, "a").again(g, 258, 2) }},
		"distance 30, and a limit":        {1, api.ErrForm, func(r *row) { r.begin(1, 1).letters(g, "a").text(g.symbols[285]).text(g.distances[30]) }},
		"a copy beyond a limit, then 287": {4, api.ErrLimit, func(r *row) { r.begin(1, 1).letters(g, "a").again(g, 4, 1).text(g.symbols[287]) }},
		"a copy to a limit, then 287":     {4, api.ErrForm, func(r *row) { r.begin(1, 1).letters(g, "a").again(g, 3, 1).text(g.symbols[287]) }},
		"stored beyond a limit, then 3":   {2, api.ErrLimit, func(r *row) { r.stored(0, []byte("abc")).begin(1, 3) }},
		"stored to a limit, then 3":       {3, api.ErrForm, func(r *row) { r.stored(0, []byte("abc")).begin(1, 3) }},
	} {
		r := &row{}
		c.build(r)
		holds(t, what, blocks(t, what, r.bytes(0), c.most), answer{e: c.e})
	}
}

func TestStoredEndsOrIsTooMany(t *testing.T) {
	// Byte by byte: a byte more than most is met ahead of the end of b, if it is there.
	for told := range 12 {
		for there := range told + 1 {
			for most := range 12 {
				want := answer{e: api.ErrShort}
				if there > most {
					want.e = api.ErrLimit
				} else if there == told {
					want = answer{strings.Repeat("a", told), 5 + told, api.OK}
				}
				r := (&row{}).begin(1, 0).align(0).low(told, 16).low(^told, 16).whole(bytes.Repeat([]byte("a"), there))
				what := fmt.Sprintf("%d of %d bytes stored, most %d", there, told, most)
				holds(t, what, blocks(t, what, r.bytes(0), most), want)
			}
		}
	}
}

// R4: what is answered is new memory.

func TestBlocksAnswersNewMemory(t *testing.T) {
	g := fixed()
	for _, b := range [][]byte{
		(&row{}).stored(1, []byte("stored")).bytes(0),
		(&row{}).begin(1, 1).letters(g, "fixed").again(g, 20, 5).end(g).bytes(0),
		(&row{}).stored(1, nil).bytes(0),
	} {
		given := spared(b)
		one, _, _ := inflate.Blocks(given, plenty)
		two, _, _ := inflate.Blocks(given, plenty)
		want := string(two)
		one = one[:cap(one)]
		for i := range one {
			one[i] = 0x11
		}
		untouched(t, "what is answered", given, b)
		if string(two) != want {
			t.Error("two answers share memory")
		}
		clear(given)
		if string(two) != want {
			t.Error("an answer shares memory with what was handed in")
		}
	}
}

// R5: asked again, it is answered the same.

func TestAskedAgain(t *testing.T) {
	g := fixed()
	good := (&row{}).begin(1, 1).letters(g, "good").end(g).bytes(0)
	bad := (&row{}).begin(1, 1).letters(g, "bad").text(g.symbols[286]).bytes(0)
	for range 3 {
		holds(t, "good", blocks(t, "good", good, 9), answer{"good", len(good), api.OK})
		holds(t, "bad", blocks(t, "bad", bad, 9), answer{e: api.ErrForm})
		holds(t, "too many", blocks(t, "too many", good, 3), answer{e: api.ErrLimit})
	}
}
