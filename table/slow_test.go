package table_test

import (
	"fmt"
	"math/rand"
	"regexp"
	"slices"
	"strconv"
	"strings"
	"testing"

	"pressmark/api"
	"pressmark/cos"
	"pressmark/lex"
	"pressmark/parse"
	"pressmark/table"
)

// answer is what Read answers, what At tells then, and where the parser stands.
type answer struct {
	section string
	e       api.Errno
	at, pos int
}

// String tells an answer.
func (a answer) String() string {
	return fmt.Sprintf("%s, %d (%v), At %d, stands at %d", short(a.section), a.e, a.e, a.at, a.pos)
}

// short is a text of which no more is shown than tells where it differs.
func short(s string) string {
	if len(s) > 300 {
		return fmt.Sprintf("%d signs, %s ..", len(s), s[:300])
	}
	return s
}

// show is all of o, fields that its kind does not use too.
func show(o api.Obj) string {
	var s strings.Builder
	fmt.Fprintf(&s, "%d.%d%q", o.Kind, o.N, o.B)
	for _, part := range o.L {
		fmt.Fprintf(&s, "[%s]", show(part))
	}
	for _, e := range o.D {
		fmt.Fprintf(&s, "{%q %s}", e.Key, show(e.Val))
	}
	return s.String()
}

// told is all of a section.
func told(s table.Section) string {
	var all strings.Builder
	for _, r := range s.Rows {
		fmt.Fprintf(&all, "%d:%d %d %d, ", r.Num, r.Kind, r.At, r.Gen)
	}
	return all.String() + show(s.Trailer)
}

// read is Read, with where the parser stands then.
func read(p *parse.Parser) answer {
	s, e := table.Read(p)
	return answer{told(s), e, p.At(), p.Pos()}
}

// The answers.

func came(trailer api.Obj, at int, rows ...table.Row) answer {
	return answer{told(table.Section{Rows: rows, Trailer: trailer}), api.OK, at, at}
}

func fault(e api.Errno, at int) answer { return answer{told(table.Section{}), e, at, at} }

// Rows, in short.

func placed(num, at, gen int) table.Row { return table.Row{Num: num, Kind: 1, At: at, Gen: gen} }

func free(num, at, gen int) table.Row { return table.Row{Num: num, Kind: 0, At: at, Gen: gen} }

// holds tells if an answer is not what it should be.
func holds[T comparable](t *testing.T, what string, got, want T) {
	t.Helper()
	if got != want {
		t.Errorf("%s: %v, want %v", short(what), got, want)
	}
}

// room is what stands in the spare room of what is handed in: it would go on with what is cut.
const room = " 0000000000 65535 f \ntrailer<<>>"

// spared is b with room behind it.
func spared(b string) []byte { return append([]byte(b), room...)[:len(b)] }

// untouched tells if given, made by spared, is not what it was.
func untouched(t *testing.T, what string, given []byte, b string) {
	t.Helper()
	if string(given[:len(b)+len(room)]) != b+room {
		t.Errorf("%s: what was handed in is changed", short(what))
	}
}

// The slow reader: it goes by texts, and reads an entry by its form.

// token is one of a text, with the lexer's error and where the lexer stands behind it.
type token struct {
	lex.Token
	e    api.Errno
	over int
}

// slowToken is the token from a place on.
func slowToken(b string, from int) token {
	x := lex.New([]byte(b))
	x.Seek(from)
	t, e := x.Token()
	return token{t, e, x.Pos()}
}

// is tells if t is the word s.
func (t token) is(s string) bool {
	return t.e == api.OK && t.Kind == lex.Word && string(t.B) == s
}

// counts tells if t is a whole number from 0 on.
func (t token) counts() bool { return t.e == api.OK && t.Kind == lex.Whole && t.N >= 0 }

// unfit is the error of a token that does not fit.
func (t token) unfit() answer {
	switch {
	case t.e != api.OK:
		return fault(t.e, t.At)
	case t.Kind == lex.End:
		return fault(api.ErrShort, t.At)
	}
	return fault(api.ErrForm, t.At)
}

var entryForm = regexp.MustCompile(`^([0-9]{10}) ([0-9]{5}) ([nf])( \r| \n|\r\n)$`)

// slowEntries are rows at the beginning of a text, and what of it is behind them, or where it goes wrong.
func slowEntries(b string, first, count int64) ([]table.Row, string, api.Errno) {
	b = strings.TrimLeft(b, "\x00\t\n\f\r ")
	var rows []table.Row
	for ; count > 0; count-- {
		if len(b) < 20 {
			return rows, b, api.ErrShort
		}
		m := entryForm.FindStringSubmatch(b[:20])
		if m == nil {
			return rows, b, api.ErrForm
		}
		at, _ := strconv.Atoi(m[1])
		gen, _ := strconv.Atoi(m[2])
		rows = append(rows, table.Row{Num: int(first), Kind: strings.Index("fn", m[3]), At: at, Gen: gen})
		first++
		b = b[20:]
	}
	return rows, b, api.OK
}

// slowRead is what Read has to answer from a place of b on.
func slowRead(b string, from, depth int) answer {
	t := slowToken(b, from)
	if !t.is("xref") {
		return t.unfit()
	}
	var rows []table.Row
	for at := t.over; ; {
		if t = slowToken(b, at); t.is("trailer") {
			break
		}
		count := slowToken(b, t.over)
		switch {
		case !t.counts() || t.N > 8388607:
			return t.unfit()
		case !count.counts() || t.N+count.N-1 > 8388607:
			return count.unfit()
		}
		more, rest, e := slowEntries(b[count.over:], t.N, count.N)
		if at = len(b) - len(rest); e != api.OK {
			return fault(e, at)
		}
		rows = append(rows, more...)
	}
	return slowTrailer(b, t.over, depth, rows)
}

// slowTrailer is what Read has to answer, where a trailer's value is left.
func slowTrailer(b string, from, depth int, rows []table.Row) answer {
	p := parse.New([]byte(b), depth)
	p.Seek(from)
	o, e := p.Value()
	if e != api.OK {
		return fault(e, p.At())
	}
	if o.Kind != 7 {
		return fault(api.ErrForm, slowToken(b, from).At)
	}
	return came(o, p.At(), rows...)
}

// everywhere asks that what is read from each place of b on is what a slow reader reads, and so once more from where the parser stands then.
func everywhere(t *testing.T, b string, depth int) {
	t.Helper()
	given := spared(b)
	p := parse.New(given, depth)
	for at := range len(b) + 1 {
		p.Seek(at)
		for range 2 {
			from := p.Pos()
			want := slowRead(b, from, depth)
			holds(t, fmt.Sprintf("from %d, depth %d, of %q", from, depth, b), read(p), want)
		}
	}
	untouched(t, b, given, b)
}

// The slow writer: it has all lines first.

// slowWrite is what Write has to answer.
func slowWrite(trailer string, rows ...table.Row) string {
	lines := []string{"xref"}
	for i, r := range rows {
		if i == 0 || rows[i-1].Num+1 != r.Num {
			n := 1
			for slices.ContainsFunc(rows, func(other table.Row) bool { return other.Num == r.Num+n }) {
				n++
			}
			lines = append(lines, fmt.Sprint(r.Num, " ", n))
		}
		lines = append(lines, fmt.Sprintf("%010d %05d %c ", r.At, r.Gen, "fn"[r.Kind]))
	}
	return strings.Join(append(lines, "trailer", trailer, ""), "\n")
}

// writable tells if rows may be written.
func writable(rows []table.Row) bool {
	for i, r := range rows {
		if r.Num < 0 || r.Num > 8388607 || r.At < 0 || r.At > 9999999999 || r.Gen < 0 || r.Gen > 65535 || r.Kind != 0 && r.Kind != 1 {
			return false
		}
		if i > 0 && rows[i-1].Num >= r.Num {
			return false
		}
	}
	return true
}

// chance makes things by chance.
type chance struct{ *rand.Rand }

func newChance(seed int64) chance { return chance{rand.New(rand.NewSource(seed))} }

// of is one of some.
func of[T any](c chance, l ...T) T { return l[c.Intn(len(l))] }

// rows are some that may be written.
func (c chance) rows(most int) []table.Row {
	var l []table.Row
	num := c.Intn(3)
	for range c.Intn(most + 1) {
		l = append(l, table.Row{Num: num, Kind: c.Intn(2), At: of(c, 0, 1, 17, c.Intn(10000000000), 9999999999), Gen: of(c, 0, 1, c.Intn(65536), 65535)})
		num += of(c, 1, 1, 1, 2, 1+c.Intn(1000))
	}
	if len(l) > 0 && c.Intn(4) == 0 {
		// Up to the greatest number.
		up := 8388607 - l[len(l)-1].Num
		for i := range l {
			l[i].Num += up
		}
	}
	return l
}

// trailer is a Dict that may be, with what is printed of it.
func (c chance) trailer() (api.Obj, string) {
	switch c.Intn(4) {
	case 0:
		return cos.Dict(), "<<>>"
	case 1:
		n := 1 + c.Intn(8388607)
		return cos.Dict(cos.Pair("Root", cos.Ref(n))), fmt.Sprintf("<</Root %d 0 R>>", n)
	case 2:
		return cos.Dict(cos.Pair("ID", cos.Arr(cos.Str([]byte("a)")), cos.Str(nil))), cos.Pair("Size", cos.Int(3))), "<</ID [<6129> ()]/Size 3>>"
	}
	return cos.Dict(cos.Pair("A", cos.Dict(cos.Pair("trailer", cos.Name("xref"))))), "<</A <</trailer /xref>>>>"
}
