package lex_test

import (
	"bytes"
	"fmt"
	"math/rand"
	"strings"
	"testing"

	"pressmark/api"
	"pressmark/lex"
)

// P11.1: texts of all kinds of tokens, from each place on.

func TestTextsOfFewKinds(t *testing.T) {
	for _, among := range []string{"<>41 x", "/#4a0( ", "()\\1\n", "[]{}%\n", "+-.12[", "a/(<%)>\r"} {
		texts(among, 5, func(b string) { everywhere(t, "few kinds", b) })
	}
}

func TestTextsOfEachSign(t *testing.T) {
	texts(whites+delimiters+"\\#+.14an\x80", 3, func(b string) { everywhere(t, "each sign", b) })
}

func TestTextsOfTwoBytes(t *testing.T) {
	for c := range 256 {
		for d := range 256 {
			b := string([]byte{byte(c), byte(d)})
			holds(t, fmt.Sprintf("%q", b), next(lex.New(spared(b))), slowToken(b, 0))
		}
	}
}

func TestTextsByChance(t *testing.T) {
	chance := rand.New(rand.NewSource(111))
	among := []string{" ", "\n", "\r\n", "\x00", "%c\n", "%", "/", "/A", "/Name#42", "#", "#4", "#00", "(", ")", "\\", "\\)", "\\53", "\\\r\n", "(a(b)c)", "<", ">", "<<", ">>", "41", "<4 1>", "[", "]", "{", "}", "1", "-1", "+.5", "2147483648", "1.25", ".", "obj", "R", "true", "endstream", "\xff", "'", "x"}
	for range 6000 {
		everywhere(t, "by chance", byChance(chance, 20, among))
	}
	for range 6000 {
		b := make([]byte, chance.Intn(30))
		chance.Read(b)
		everywhere(t, "bytes by chance", string(b))
	}
	signs := whites + delimiters + delimiters + "\\\\##1234abn"
	for range 6000 {
		b := make([]byte, chance.Intn(30))
		for i := range b {
			b[i] = signs[chance.Intn(len(signs))]
		}
		everywhere(t, "signs by chance", string(b))
	}
}

// FuzzToken asks of what is given what a slow lexer reads, as go test -fuzz asks.
func FuzzToken(f *testing.F) {
	f.Add([]byte(`/A#42 (x(y)\101)<4 1>-.5 obj`), "obj")
	f.Add([]byte("<</A[1 0 R]>>%x\r\nstream"), "stream")
	f.Fuzz(func(t *testing.T, b []byte, s string) {
		if len(b) > 300 {
			b = b[:300]
		}
		everywhere(t, "by fuzz", string(b))
		rest, ok := slowKeyword(string(b), s)
		keyword(t, string(b), 0, s, len(b)-len(rest), ok)
	})
}

// R1: many tokens, one behind the other, come in time.

func TestManyTokens(t *testing.T) {
	part := "12 0 obj<</A(x\\)y)/B#41[<41>-.5]>>%c\nendobj\n"
	const times, each = 20000, 13
	l := lex.New([]byte(strings.Repeat(part, times)))
	n := 0
	for tok, e := l.Token(); tok.Kind != lex.End || e != api.OK; tok, e = l.Token() {
		if e != api.OK {
			t.Fatalf("token %d: %v", n, e)
		}
		if n++; n > times*each {
			break
		}
	}
	if n != times*each || l.Left() != 0 {
		t.Errorf("%d tokens, want %d", n, times*each)
	}
}

// R4: what is answered is new memory, and what is handed in stays as it is.

// kept are tokens with bytes.
const kept = `/Name (text) <4142> word /#4eame (t\145xt) (\)) <414>`

func TestKeepsNothing(t *testing.T) {
	var all [][]byte
	var was []string
	given := spared(kept)
	for range 2 {
		l := lex.New(given)
		for a := next(l); a.Kind != lex.End; a = next(l) {
			all = append(all, a.B)
			was = append(was, string(a.B))
		}
	}
	if len(all) != 16 {
		t.Fatalf("%d tokens", len(all))
	}
	stays := func(what string, from int) {
		t.Helper()
		for i := from; i < len(all); i++ {
			if string(all[i]) != was[i] {
				t.Errorf("%s: token %d is %q, was %q", what, i, all[i], was[i])
			}
		}
	}
	for i, b := range all {
		// Spare room too: it shares none with another answer, nor with what was handed in.
		b = b[:cap(b)]
		for j := range b {
			b[j] ^= 0xff
		}
		stays("an answer changed", i+1)
	}
	untouched(t, "answers changed", given, kept)
	l := lex.New(given)
	a := next(l)
	clear(given[:cap(given)])
	if string(a.B) != "Name" {
		t.Errorf("what was handed in changed since: %q", a.B)
	}
}

func TestLooksAtItsBytes(t *testing.T) {
	// A reader looks at the bytes that it was made of, as it reads.
	b := []byte("ab cd")
	l := lex.New(b)
	holds(t, "a word", next(l), row(lex.Word, "ab", 0, 2))
	b[3] = 'x'
	holds(t, "a word that changed since", next(l), row(lex.Word, "xd", 3, 5))
}

// R5: another lexer, and what is asked at the same time, does not count.

func TestLexersOfTheSameBytes(t *testing.T) {
	given := spared(kept)
	one, other := lex.New(given), lex.New(given)
	for at := 0; at < 5; at++ {
		a := next(one)
		next(one)
		one.Seek(a.pos)
	}
	holds(t, "another lexer", next(other), slowToken(kept, 0))
	if one.Pos() == other.Pos() {
		t.Error("lexers of the same bytes meet")
	}
}

func TestHangsOnArguments(t *testing.T) {
	given := spared(kept)
	for i := range 20 {
		t.Run("", func(t *testing.T) {
			t.Parallel()
			chance := rand.New(rand.NewSource(int64(i)))
			for range 200 {
				b := make([]byte, 20)
				chance.Read(b)
				next(lex.New(b))
				at := chance.Intn(len(kept))
				l := lex.New(given)
				l.Seek(at)
				want := slowToken(kept, at)
				if got := next(l); !alike(got, want) || !bytes.Equal(given, []byte(kept)) {
					t.Errorf("many at once: %v, want %v", got, want)
				}
			}
		})
	}
}
