package inflate_test

import (
	"fmt"
	"slices"
	"strings"
	"testing"

	"pressmark/api"
)

// little are lengths of few symbols and distances: 'a', 'b', the end and 257 (3 bytes) are of 2 bits, the distances 1 and 2 of 1.
func little() ([]int, []int) { return at(258, 'a', 2, 'b', 2, 256, 2, 257, 2), at(2, 0, 1, 1, 1) }

// steps are lengths of n symbols: 1, 2, .. 14 from the first on, and 15 the last two: a full code.
func steps(n int) []int {
	l := at(n, n-2, 15, n-1, 15)
	for i := range 14 {
		l[i] = i + 1
	}
	return l
}

// with is a copy of lengths, but at one symbol.
func with(lengths []int, symbol, length int) []int {
	l := slices.Clone(lengths)
	l[symbol] = length
	return l
}

// all is n lengths, all the same.
func all(length, n int) []int { return slices.Repeat([]int{length}, n) }

// wrong are rows of 15 bits that do not begin with so many noughts.
func wrong(n int) []string {
	l := []string{"111111111111111", "100000000000000"}
	for bit := range n {
		signs := []byte("000000000000000")
		signs[bit] = '1'
		l = append(l, string(signs))
	}
	return l
}

// tellsRow asks that a block of kind 2 is refused behind the last bit of its row.
func tellsRow(t *testing.T, what string, symbols, distances int, l []piece) {
	t.Helper()
	tells(t, what, plenty, "", api.ErrForm, func(r *row) { r.tell(1, symbols, distances, l) })
}

// reads asks that a block of kind 2, its lengths told by l, is read as it says.
func reads(t *testing.T, what string, symbols, distances []int, l []piece, want string, say func(r *row, g tongue)) {
	t.Helper()
	tells(t, what, len(want), want, api.OK, func(r *row) {
		g := tongueOf(symbols, distances)
		r.tell(1, len(symbols), len(distances), l)
		say(r, g)
		r.end(g)
	})
}

// spells is reads of a text in letters, no distance told.
func spells(t *testing.T, what string, symbols []int, l []piece, text string) {
	t.Helper()
	reads(t, what, symbols, at(1), l, text, func(r *row, g tongue) { r.letters(g, text) })
}

// P4.2: kind 2, how many lengths there are.

func TestTold(t *testing.T) {
	symbols, distances := little()
	for _, l := range [][]piece{packed(symbols, distances), pieces(slices.Concat(symbols, distances)...)} {
		reads(t, "few symbols", symbols, distances, l, "bababbbbba", func(r *row, g tongue) {
			r.letters(g, "ba").again(g, 3, 2).letters(g, "b").again(g, 3, 1).letters(g, "a")
		})
	}
}

func TestFewestLengths(t *testing.T) {
	// 257, 1 and 4: by 16, 17, 18 and 0 alone no symbol has a length.
	code := at(19, 18, 1, 0, 1)
	tells(t, "4 lengths of the code of lengths", plenty, "", api.ErrForm, func(r *row) {
		r.begin(1, 2).counts(257, 1, 4, code).pieces(code, noughts(258))
	})
	// 257, 1 and 5: one symbol alone, of 8 bits.
	code = at(19, 18, 1, 8, 2, 0, 2)
	tells(t, "5 lengths of the code of lengths", 0, "", api.OK, func(r *row) {
		r.begin(1, 2).counts(257, 1, 5, code).pieces(code, packed(at(258, 256, 8))).text("00000000")
	})
}

func TestMostLengths(t *testing.T) {
	symbols, distances := manySymbols(), manyDistances()
	reads(t, "286, 30 and 19", symbols, distances, packed(symbols, distances), again("most", 11, 4), func(r *row, g tongue) {
		r.letters(g, "most").again(g, 11, 4)
	})
}

func TestEachCountOfTheCodeOfLengths(t *testing.T) {
	for n := 5; n <= 19; n++ {
		// Those behind the last one that is used may be told as noughts, or not at all.
		code := at(19, 18, 1, 8, 2, 0, 2)
		tells(t, fmt.Sprint(n, " lengths of the code of lengths"), 0, "", api.OK, func(r *row) {
			r.begin(1, 2).counts(257, 1, n, code).pieces(code, packed(at(258, 256, 8))).text("00000000")
		})
		// And the last one counts: each length from 1 to 15 is the last one once.
		length := order()[n-1]
		code = at(19, 18, 1, length, 1)
		tells(t, fmt.Sprint("the last of ", n, " lengths of the code of lengths"), 0, "", api.OK, func(r *row) {
			r.begin(1, 2).counts(257, 12, n, code).pieces(code, packed(at(269, 256, length))).text(strings.Repeat("0", length))
		})
	}
}

func TestEachCountOfSymbols(t *testing.T) {
	for n := 258; n <= 286; n++ {
		symbols := at(n, 'a', 1, 256, 2, n-1, 2)
		spells(t, fmt.Sprint(n, " symbols"), symbols, packed(symbols, at(1)), "aa")
	}
	for n := 287; n <= 288; n++ {
		tells(t, fmt.Sprint(n, " symbols"), plenty, "", api.ErrForm, func(r *row) { r.begin(1, 2).low(n-257, 5) })
	}
}

func TestEachCountOfDistances(t *testing.T) {
	symbols := at(258, 'a', 1, 256, 2, 257, 2)
	for n := 1; n <= 30; n++ {
		// The last one alone is told, and used.
		distances := at(n, n-1, 1)
		far := leastOf(n - 1)
		b := mixed(far)
		g := tongueOf(symbols, distances)
		r := (&row{}).stored(0, b).tell(1, 258, n, packed(symbols, distances)).again(g, 3, far).end(g)
		want := answer{again(string(b), 3, far), len(r.bytes(0)), api.OK}
		holds(t, fmt.Sprint(n, " distances"), blocks(t, "distances", r.bytes(0), plenty), want)
	}
	for n := 31; n <= 32; n++ {
		for _, m := range []int{257, 286} {
			tells(t, fmt.Sprint(n, " distances"), plenty, "", api.ErrForm, func(r *row) { r.begin(1, 2).low(m-257, 5).low(n-1, 5) })
		}
	}
}

// leastOf is the least distance of a symbol.
func leastOf(symbol int) int { return distances()[symbol].least }

// P4.2: kind 2, the code of lengths.

func TestCodeOfLengthsThatMayNotBe(t *testing.T) {
	for what, code := range map[string][]int{
		"too full, at 1":          at(19, 0, 1, 1, 1, 18, 1),
		"too full, at 7":          at(19, 0, 1, 1, 1, 18, 7),
		"too full, 1, 2 and 1":    at(19, 16, 1, 18, 2, 0, 1),
		"too full, all of 1":      all(1, 19),
		"too full, all of 4":      all(4, 19),
		"not full, two of 2":      at(19, 1, 2, 18, 2),
		"not full, 1 and 2":       at(19, 1, 1, 18, 2),
		"not full, at 7":          at(19, 0, 1, 1, 2, 2, 3, 3, 4, 4, 5, 5, 6, 18, 7),
		"not full, all of 5":      all(5, 19),
		"not full, all but one 7": at(19, 17, 7, 18, 7),
	} {
		tells(t, "a code of lengths: "+what, plenty, "", api.ErrForm, func(r *row) { r.begin(1, 2).counts(257, 1, 19, code) })
	}
}

func TestFullCodesOfLengths(t *testing.T) {
	code := at(19, 0, 1, 1, 2, 2, 3, 3, 4, 4, 5, 5, 6, 18, 7, 17, 7)
	tells(t, "to 7 bits", 0, "", api.OK, func(r *row) {
		r.begin(1, 2).counts(257, 1, 19, code).pieces(code, packed(at(258, 256, 1))).text("0")
	})
	code = append(all(4, 13), all(5, 6)...)
	tells(t, "of all", 0, "", api.OK, func(r *row) {
		r.begin(1, 2).counts(257, 1, 19, code).pieces(code, packed(at(258, 256, 15))).text("000000000000000")
	})
}

func TestCodeOfLengthsOfOneAlone(t *testing.T) {
	// It may be, so that nothing is told ahead of the row's end, where 256 has no code or there are too many.
	for length := 1; length <= 7; length++ {
		code := at(19, 18, length)
		tells(t, "18 alone", plenty, "", api.ErrForm, func(r *row) {
			r.begin(1, 2).counts(257, 1, 19, code).pieces(code, []piece{{18, 127}, {18, 109}})
		})
		for _, signs := range wrong(length) {
			tells(t, "18 alone, and bits that are no code", plenty, "", api.ErrForm, func(r *row) {
				r.begin(1, 2).counts(257, 1, 19, code).pieces(code, []piece{{18, 127}}).text(signs)
			})
		}
		code = at(19, 8, length)
		tells(t, "8 alone", plenty, "", api.ErrForm, func(r *row) {
			r.begin(1, 2).counts(257, 1, 19, code).pieces(code, pieces(all(8, 258)...))
		})
	}
}

func TestCodeOfLengthsOfNone(t *testing.T) {
	code := make([]int, 19)
	for _, n := range []int{4, 5, 19} {
		for _, signs := range append(wrong(1), "000000000000000") {
			tells(t, "a code of lengths of none", plenty, "", api.ErrForm, func(r *row) { r.begin(1, 2).counts(257, 1, n, code).text(signs) })
		}
	}
}

// P4.2: kind 2, the row of lengths.

func TestSixteenAtTheBeginning(t *testing.T) {
	symbols := at(257, 'a', 1, 256, 1)
	for what, r := range map[string]*row{
		"16 at the beginning":                 {},
		"16 at the beginning of a second row": (&row{}).tell(0, 257, 1, packed(symbols, at(1))).end(tongueOf(symbols, at(1))),
	} {
		code := at(19, 16, 1, 18, 2, 1, 2)
		tells(t, what, plenty, "", api.ErrForm, func(s *row) {
			s.bits = append(s.bits, r.bits...)
			s.begin(1, 2).counts(257, 1, 19, code).text("0")
		})
		code = at(19, 16, 7)
		tells(t, what+", alone", plenty, "", api.ErrForm, func(s *row) {
			s.bits = append(s.bits, r.bits...)
			s.begin(1, 2).counts(286, 30, 19, code).text("0000000")
		})
	}
}

func TestSixteen(t *testing.T) {
	for more := range 4 {
		n := 3 + more
		// 'a' to 'g', the first one told by itself, and the end.
		symbols := at(257, 256, 3)
		copy(symbols['a':], all(3, 7))
		l := slices.Concat(noughts('a'), pieces(3), []piece{{16, more}}, pieces(all(3, 6-n)...), packed(symbols['a'+7:], at(1)))
		spells(t, fmt.Sprint("16, ", n, " times"), symbols, l, "agbfced")
		// 'a' to 'o': 16 behind itself.
		symbols = at(257, 256, 4)
		copy(symbols['a':], all(4, 15))
		l = slices.Concat(noughts('a'), pieces(4), []piece{{16, more}, {16, more}}, pieces(all(4, 14-2*n)...), packed(symbols['a'+15:], at(1)))
		spells(t, fmt.Sprint("16 behind 16, ", n, " times"), symbols, l, "abcdefghijklmno")
	}
}

func TestSixteenBehindNoughts(t *testing.T) {
	// It repeats what they made, not what they are.
	for more := range 4 {
		for what, c := range map[string]struct {
			ahead piece
			n     int // how many noughts these are
		}{
			"0":  {piece{0, 0}, 1},
			"17": {piece{17, 0}, 3},
			"18": {piece{18, 0}, 11},
		} {
			symbols := at(257, 0, 1, 256, 1)
			l := append(pieces(1), c.ahead, piece{16, more})
			l = append(l, packed(symbols[1+c.n+3+more:], at(1))...)
			spells(t, "16 behind "+what, symbols, l, "\x00\x00")
		}
	}
}

func TestSeventeenAndEighteen(t *testing.T) {
	for symbol, c := range map[int]struct{ least, width int }{17: {3, 3}, 18: {11, 7}} {
		for more := range 1 << c.width {
			n := c.least + more
			symbols := at(257, 0, 2, 1+n, 2, 256, 1)
			l := slices.Concat(pieces(2), []piece{{symbol, more}}, packed(symbols[1+n:], at(1)))
			text := string([]byte{byte(1 + n), 0, byte(1 + n)})
			spells(t, fmt.Sprintf("%d, %d noughts", symbol, n), symbols, l, text)
			// A row may begin with it.
			symbols = at(257, n, 1, 256, 1)
			l = slices.Concat([]piece{{symbol, more}}, packed(symbols[n:], at(1)))
			spells(t, fmt.Sprintf("%d at the beginning, %d noughts", symbol, n), symbols, l, string([]byte{byte(n)}))
		}
	}
}

func TestRowRunsFromSymbolsIntoDistances(t *testing.T) {
	for what, c := range map[string]struct {
		symbols, distances []int
		from               int // where in the row the piece begins
		l                  []piece
	}{
		"16, 3 times":  {at(258, 'a', 1, 256, 2, 257, 2), all(2, 4), 257, []piece{{16, 0}, {2, 0}, {2, 0}}},
		"16, 4 times":  {at(258, 'a', 1, 256, 2, 257, 2), all(2, 4), 257, []piece{{16, 1}, {2, 0}}},
		"16, 5 times":  {at(258, 'a', 1, 256, 2, 257, 2), all(2, 4), 257, []piece{{16, 2}}},
		"17, 3 times":  {at(259, 'a', 1, 256, 2, 257, 2), at(4, 3, 5), 258, []piece{{17, 0}, {0, 0}, {5, 0}}},
		"17, 10 times": {at(265, 'a', 1, 256, 2, 257, 2), at(4, 3, 5), 258, []piece{{17, 7}, {5, 0}}},
		"18, 11 times": {at(266, 'a', 1, 256, 2, 257, 2), at(4, 3, 5), 258, []piece{{18, 0}, {5, 0}}},
		"18, 31 times": {at(286, 'a', 1, 256, 2, 257, 2), at(4, 3, 5), 258, []piece{{18, 20}, {5, 0}}},
	} {
		lengths := slices.Concat(c.symbols, c.distances)
		l := append(packed(lengths[:c.from]), c.l...)
		reads(t, what, c.symbols, c.distances, l, "aaaaaaa", func(r *row, g tongue) { r.letters(g, "aaaa").again(g, 3, 4) })
	}
	symbols := at(286, 'a', 1, 256, 1)
	l := append(packed(symbols[:257]), piece{18, 29 + 30 - 11})
	reads(t, "18 from behind 256 to the end", symbols, at(30), l, "aa", func(r *row, g tongue) { r.letters(g, "aa") })
}

func TestRowRunsOver(t *testing.T) {
	// Behind the end's length there are 59 noughts, into which a piece fits or not.
	symbols := at(286, 'a', 1, 256, 1)
	lengths := append(slices.Clone(symbols), at(30)...)
	for symbol, c := range map[int]struct{ least, width int }{16: {3, 2}, 17: {3, 3}, 18: {11, 7}} {
		for more := range 1 << c.width {
			n := c.least + more
			if n < 59 {
				fits := append(packed(lengths[:len(lengths)-n]), piece{symbol, more})
				reads(t, fmt.Sprintf("%d, %d times, just fits", symbol, n), symbols, at(30), fits, "a", func(r *row, g tongue) { r.letters(g, "a") })
			}
			over := append(packed(lengths[:len(lengths)-n+1]), piece{symbol, more})
			tellsRow(t, fmt.Sprintf("%d, %d times, runs over by one", symbol, n), 286, 30, over)
			over = append(packed(lengths[:len(lengths)-1]), piece{symbol, more})
			tellsRow(t, fmt.Sprintf("%d, %d times, where one fits", symbol, n), 286, 30, over)
		}
	}
}

// P4.2: kind 2, the codes of symbols and of distances.

func TestSymbolsThatMayNotBe(t *testing.T) {
	full := steps(257)
	spells(t, "full to 15 bits", full, packed(full, at(1)), "\x00\x01\x0d\xff")
	eights := append(all(8, 255), 9, 9)
	spells(t, "full, most of 8 bits", eights, packed(eights, at(1)), "\x00\xfe\xff")
	for what, symbols := range map[string][]int{
		"too full by the least":   with(full, 100, 15),
		"too full, three of 1":    at(257, 0, 1, 1, 1, 256, 1),
		"too full, five of 2":     at(258, 0, 2, 1, 2, 2, 2, 256, 2, 257, 2),
		"too full, all of 1":      all(1, 286),
		"too full, all of 8":      all(8, 257),
		"not full by the least":   with(full, 255, 0),
		"not full, two of 2":      at(257, 0, 2, 256, 2),
		"not full, 1 and 2":       at(257, 0, 1, 256, 2),
		"not full, two of 15":     at(257, 0, 15, 256, 15),
		"not full, three of 2":    at(258, 1, 2, 256, 2, 257, 2),
		"not full, all of 9":      all(9, 286),
		"not full, all of 15":     all(15, 286),
		"of none":                 at(257),
		"of none, 286 of them":    at(286),
		"of one alone, not 256":   at(257, 'a', 1),
		"of one alone, 257":       at(258, 257, 1),
		"full, without 256":       at(257, 'a', 1, 'b', 1),
		"full, 257, without 256":  at(258, 'a', 1, 257, 1),
		"full, without 256, of 8": append(all(8, 256), 0),
	} {
		tellsRow(t, "symbols: "+what, len(symbols), 1, packed(symbols, at(1)))
		tellsRow(t, "symbols: "+what+", with distances", len(symbols), 2, packed(symbols, all(1, 2)))
	}
}

func TestEndAlone(t *testing.T) {
	for length := 1; length <= 15; length++ {
		symbols := at(257, 256, length)
		l := packed(symbols, at(1))
		spells(t, "256 alone", symbols, l, "")
		for _, signs := range wrong(length) {
			tells(t, "256 alone, and bits that are no code", plenty, "", api.ErrForm, func(r *row) { r.tell(0, 257, 1, l).text(signs) })
		}
	}
}

func TestDistancesThatMayNotBe(t *testing.T) {
	symbols, _ := little()
	full := steps(30)
	reads(t, "full to 15 bits", symbols, full, packed(symbols, full), again("abab", 3, 4), func(r *row, g tongue) {
		r.letters(g, "abab").again(g, 3, 4)
	})
	for what, distances := range map[string][]int{
		"too full by the least":  with(full, 20, 15),
		"too full, three of 1":   all(1, 3),
		"too full, all of 4":     all(4, 30),
		"too full, 1, 1 and 15":  at(30, 3, 1, 7, 1, 29, 15),
		"not full by the least":  with(full, 28, 0),
		"not full, two of 2":     all(2, 2),
		"not full, 1 and 2":      at(30, 0, 1, 29, 2),
		"not full, all of 5":     all(5, 30),
		"not full, all of 15":    all(15, 30),
		"not full, 1, 2, 3 to 7": at(30, 0, 1, 1, 2, 2, 3, 3, 4, 4, 5, 5, 6, 6, 7),
	} {
		tellsRow(t, "distances: "+what, len(symbols), len(distances), packed(symbols, distances))
	}
}

func TestDistanceAlone(t *testing.T) {
	symbols, _ := little()
	for length := 1; length <= 15; length++ {
		for _, s := range []int{0, 1, 3, 4} {
			distances := at(s+1, s, length)
			l := packed(symbols, distances)
			text := "abbaba"[:leastOf(s)]
			reads(t, "a distance alone", symbols, distances, l, again(text, 3, len(text)), func(r *row, g tongue) {
				r.letters(g, text).again(g, 3, len(text))
			})
			g := tongueOf(symbols, distances)
			for _, signs := range wrong(length) {
				tells(t, "a distance alone, and bits that are no code", plenty, "", api.ErrForm, func(r *row) {
					r.tell(1, len(symbols), s+1, l).letters(g, text).text(g.symbols[257]).text(signs)
				})
			}
		}
	}
}

func TestDistancesOfNone(t *testing.T) {
	symbols, _ := little()
	for _, n := range []int{1, 2, 30} {
		l := packed(symbols, at(n))
		g := tongueOf(symbols, at(n))
		reads(t, "no distance, and none is asked for", symbols, at(n), l, "abba", func(r *row, g tongue) { r.letters(g, "abba") })
		for _, signs := range append(wrong(1), "000000000000000") {
			tells(t, "no distance, and one is asked for", plenty, "", api.ErrForm, func(r *row) {
				r.tell(1, len(symbols), n, l).letters(g, "a").text(g.symbols[257]).text(signs)
			})
		}
	}
}

// P4.2: blocks of kind 2 among others.

func TestEachBlockTellsItsOwn(t *testing.T) {
	one, other := at(257, 'a', 1, 256, 1), at(257, 'a', 2, 'b', 1, 256, 2)
	g, h, f := tongueOf(one, at(1)), tongueOf(other, at(1)), fixed()
	tells(t, "blocks that tell", 8, "aabaabaa", api.OK, func(r *row) {
		r.tell(0, 257, 1, packed(one, at(1))).letters(g, "aa").end(g)
		r.tell(0, 257, 1, packed(other, at(1))).letters(h, "ba").end(h)
		r.begin(0, 1).letters(f, "ab").end(f)
		r.tell(0, 257, 1, packed(one, at(1))).letters(g, "a").end(g)
		r.begin(1, 1).letters(f, "a").end(f)
	})
}

func TestLimitInWhatIsTold(t *testing.T) {
	symbols, distances := little()
	l := packed(symbols, distances)
	g := tongueOf(symbols, distances)
	tells(t, "a letter, most 0", 0, "", api.ErrLimit, func(r *row) { r.tell(1, 258, 2, l).letters(g, "a") })
	tells(t, "a copy, most 3", 3, "", api.ErrLimit, func(r *row) { r.tell(1, 258, 2, l).letters(g, "a").again(g, 3, 1) })
	tells(t, "a copy, too far, most 1", 1, "", api.ErrForm, func(r *row) { r.tell(1, 258, 2, l).letters(g, "a").again(g, 3, 2) })
}
