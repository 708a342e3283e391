package parse_test

import (
	"fmt"
	"maps"
	"math/rand"
	"slices"
	"strings"
	"testing"

	"pressmark/api"
	"pressmark/lex"
	"pressmark/parse"
)

// answer is what a call answers (of Value the number is 0), what At tells then, and where the parser stands.
type answer struct {
	num     int
	obj     string
	e       api.Errno
	at, pos int
}

// String tells an answer.
func (a answer) String() string {
	return fmt.Sprintf("number %d, %s, %d (%v), At %d, stands at %d", a.num, short(a.obj), a.e, a.e, a.at, a.pos)
}

// short is a text of which no more is shown than tells where it differs.
func short(s string) string {
	if len(s) > 300 {
		return fmt.Sprintf("%d signs, %s ..", len(s), s[:300])
	}
	return s
}

// show is all of o, fields that its kind does not use too.
func show(o api.Obj) string {
	kind := fmt.Sprint("kind ", o.Kind)
	kinds := strings.Fields("Null Bool Int Real Str Name Arr Dict Stream Ref")
	if o.Kind >= 0 && o.Kind < len(kinds) {
		kind = kinds[o.Kind]
	}
	var s strings.Builder
	s.WriteString(kind)
	if o.N != 0 {
		fmt.Fprint(&s, " ", o.N)
	}
	if len(o.B) > 0 {
		fmt.Fprintf(&s, " %q", o.B)
	}
	for i, part := range o.L {
		fmt.Fprintf(&s, "%c%s", "[,"[min(i, 1)], show(part))
	}
	if len(o.L) > 0 {
		s.WriteString("]")
	}
	for i, e := range o.D {
		fmt.Fprintf(&s, "%c%q %s", "{,"[min(i, 1)], e.Key, show(e.Val))
	}
	if len(o.D) > 0 {
		s.WriteString("}")
	}
	return s.String()
}

// The calls, with where the parser stands then.

func value(p *parse.Parser) answer {
	o, e := p.Value()
	return answer{0, show(o), e, p.At(), p.Pos()}
}

func item(p *parse.Parser) answer {
	i, e := p.Item()
	return answer{i.Num, show(i.Obj), e, p.At(), p.Pos()}
}

// all is what All answers: no place.
func all(b string, depth int) answer {
	o, e := parse.All([]byte(b), depth)
	return answer{obj: show(o), e: e}
}

// The answers.

func came(o api.Obj, at int) answer { return answer{0, show(o), api.OK, at, at} }

func numbered(num int, o api.Obj, at int) answer { return answer{num, show(o), api.OK, at, at} }

func fault(e api.Errno, at int) answer { return answer{0, show(api.Obj{}), e, at, at} }

// holds tells if an answer is not what it should be.
func holds(t *testing.T, what string, got, want answer) {
	t.Helper()
	if got != want {
		t.Errorf("%s: %v, want %v", what, got, want)
	}
}

// room is what stands in the spare room of what is handed in: it would end what does not end.
const room = " 0 R>>]endstream endobj"

// spared is b with room behind it.
func spared(b string) []byte { return append([]byte(b), room...)[:len(b)] }

// untouched tells if given, made by spared, is not what it was.
func untouched(t *testing.T, what string, given []byte, b string) {
	t.Helper()
	if string(given[:len(b)+len(room)]) != b+room {
		t.Errorf("%s: what was handed in is changed", what)
	}
}

// The slow parser: it has all tokens first, and keeps what is open in a list.

// token is one of a text, with the lexer's error and where the lexer stands behind it.
type token struct {
	lex.Token
	e    api.Errno
	over int
}

// slowTokens are the tokens from a place on, up to the end or an error.
func slowTokens(b string, from int) []token {
	x := lex.New([]byte(b))
	x.Seek(from)
	var l []token
	for {
		t, e := x.Token()
		l = append(l, token{t, e, x.Pos()})
		if e != api.OK || t.Kind == lex.End {
			return l
		}
	}
}

// is tells if t is the word s.
func (t token) is(s string) bool { return t.Kind == lex.Word && string(t.B) == s }

// unfit is the error of a token that does not fit.
func (t token) unfit() answer {
	switch {
	case t.e != api.OK:
		return fault(t.e, t.At)
	case t.Kind == lex.End:
		return fault(api.ErrShort, t.At)
	}
	return fault(api.ErrForm, t.At)
}

// plain is what the first of the tokens say that are no brackets, and how many they are; 0, if they do not.
func plain(l []token) (api.Obj, int) {
	t := l[0]
	switch {
	case t.e != api.OK:
	case t.Kind == lex.Whole:
		if t.N > 0 && t.N < 8388608 && len(l) > 2 && l[1].e == api.OK && l[1].Kind == lex.Whole && l[1].N == 0 && l[2].is("R") {
			return api.Obj{Kind: api.Ref, N: t.N}, 3
		}
		return api.Obj{Kind: api.Int, N: t.N}, 1
	case t.Kind == lex.Real:
		return api.Obj{Kind: api.Real, N: t.N}, 1
	case t.Kind == lex.Text:
		return api.Obj{Kind: api.Str, B: t.B}, 1
	case t.Kind == lex.Name:
		return api.Obj{Kind: api.Name, B: t.B}, 1
	case t.is("true"):
		return api.Obj{Kind: api.Bool, N: 1}, 1
	case t.is("false"):
		return api.Obj{Kind: api.Bool}, 1
	case t.is("null"):
		return api.Obj{}, 1
	}
	return api.Obj{}, 0
}

// pending is an array or a dictionary that is not closed yet.
type pending struct {
	dict, keyed bool
	key         string
	l           []api.Obj
	d           map[string]api.Obj
}

// take puts an object in.
func (o *pending) take(part api.Obj) {
	if o.dict {
		o.d[o.key], o.keyed = part, false
		return
	}
	o.l = append(o.l, part)
}

// closed is the object.
func (o *pending) closed() api.Obj {
	if !o.dict {
		return api.Obj{Kind: api.Arr, L: o.l}
	}
	made := api.Obj{Kind: api.Dict}
	for _, key := range slices.Sorted(maps.Keys(o.d)) {
		if o.d[key].Kind != api.Null {
			made.D = append(made.D, api.Entry{Key: key, Val: o.d[key]})
		}
	}
	return made
}

// slowValue is what Value has to answer from a place of b on, and the object.
func slowValue(b string, from, depth int) (answer, api.Obj) {
	depth = min(max(depth, 0), 28)
	var open []*pending
	l := slowTokens(b, from)
	for {
		t := l[0]
		var in *pending
		if len(open) > 0 {
			in = open[len(open)-1]
		}
		made, n := plain(l)
		switch {
		case in != nil && in.dict && !in.keyed && t.Kind != lex.Right:
			_, again := in.d[string(t.B)]
			if t.e != api.OK || t.Kind != lex.Name || again {
				return t.unfit(), api.Obj{}
			}
			in.key, in.keyed, l = string(t.B), true, l[1:]
			continue
		case t.e == api.OK && (t.Kind == lex.Open || t.Kind == lex.Left):
			if len(open) == depth {
				return fault(api.ErrDepth, t.At), api.Obj{}
			}
			open, l = append(open, &pending{dict: t.Kind == lex.Left, d: map[string]api.Obj{}}), l[1:]
			continue
		case in != nil && (in.dict && !in.keyed && t.Kind == lex.Right || !in.dict && t.Kind == lex.Close):
			made, n, open = in.closed(), 1, open[:len(open)-1]
		case n == 0:
			return t.unfit(), api.Obj{}
		}
		if len(open) == 0 {
			return came(made, l[n-1].over), made
		}
		open[len(open)-1].take(made)
		l = l[n:]
	}
}

// slowItem is what Item has to answer from a place of b on.
func slowItem(b string, from, depth int) answer {
	l := slowTokens(b, from)
	num := l[0].N
	for i, fits := range []bool{l[0].Kind == lex.Whole && num > 0 && num < 8388608, len(l) > 1 && l[1].Kind == lex.Whole && l[1].N == 0, len(l) > 2 && l[2].is("obj")} {
		if !fits {
			return l[i].unfit()
		}
	}
	at := l[2].over
	a, o := slowValue(b, at, depth)
	if a.e != api.OK {
		return a
	}
	behind := slowTokens(b, a.at)[0]
	if o.Kind == api.Dict && behind.is("stream") {
		if o, behind, a = slowStream(b, behind.over, o); a.e != api.OK {
			return a
		}
	}
	if !behind.is("endobj") {
		return behind.unfit()
	}
	return numbered(int(num), o, behind.over)
}

// slowStream is a stream of which the word stream ends at a place of b, with the token behind the word endstream; or an error.
func slowStream(b string, from int, o api.Obj) (api.Obj, token, answer) {
	rest := b[from:]
	data, ok := strings.CutPrefix(rest, "\n")
	if !ok {
		data, ok = strings.CutPrefix(rest, "\r\n")
	}
	switch {
	case rest == "":
		return o, token{}, fault(api.ErrShort, from)
	case !ok:
		return o, token{}, fault(api.ErrForm, from)
	}
	at := len(b) - len(data)
	n := int64(-1)
	made := api.Obj{Kind: api.Stream}
	for _, e := range o.D {
		if e.Key != "Length" {
			made.D = append(made.D, e)
		} else if e.Val.Kind == api.Int {
			n = e.Val.N
		}
	}
	switch {
	case n < 0:
		return o, token{}, fault(api.ErrForm, at)
	case n > int64(len(data)):
		return o, token{}, fault(api.ErrShort, at)
	}
	made.B = []byte(data[:n])
	l := slowTokens(b, at+int(n))
	if !l[0].is("endstream") {
		return o, token{}, l[0].unfit()
	}
	return made, l[1], answer{}
}

// slowAll is what All has to answer.
func slowAll(b string, depth int) answer {
	a, _ := slowValue(b, 0, depth)
	if a.e == api.OK {
		x := lex.New([]byte(b))
		x.Seek(a.at)
		if x.Blank(); x.Left() > 0 {
			a = fault(api.ErrLong, 0)
		}
	}
	return answer{obj: a.obj, e: a.e}
}

// everywhere asks that what is read from each place of b on is what a slow parser reads, and so behind an error.
func everywhere(t *testing.T, b string, depth int) {
	t.Helper()
	given := spared(b)
	p := parse.New(given, depth)
	for at := range len(b) + 1 {
		from(t, p, b, at, depth)
	}
	what := fmt.Sprintf("%s, depth %d", short(fmt.Sprintf("%q", b)), depth)
	holds(t, what+", All", all(b, depth), slowAll(b, depth))
	untouched(t, what, given, b)
}

// from asks that what is read from a place on is what a slow parser reads, and so behind an error.
func from(t *testing.T, p *parse.Parser, b string, at, depth int) {
	t.Helper()
	what := fmt.Sprintf("%s from %d, depth %d", short(fmt.Sprintf("%q", b)), at, depth)
	p.Seek(at)
	want, _ := slowValue(b, at, depth)
	holds(t, what+", Value", value(p), want)
	if want.e != api.OK {
		holds(t, what+", Value once more", value(p), first(slowValue(b, want.at, depth)))
	}
	p.Seek(at)
	want = slowItem(b, at, depth)
	holds(t, what+", Item", item(p), want)
	if want.e != api.OK {
		holds(t, what+", Value behind an Item's error", value(p), first(slowValue(b, want.at, depth)))
	}
}

func first(a answer, _ api.Obj) answer { return a }

// rows calls f with all rows of at most so many of some texts, each with a blank between.
func rows(among []string, longest int, f func(string)) {
	l := []string{""}
	for range longest + 1 {
		var longer []string
		for _, row := range l {
			f(row)
			for _, one := range among {
				longer = append(longer, strings.TrimPrefix(row+" "+one, " "))
			}
		}
		l = longer
	}
}

// byChance is a text of parts that are taken by chance.
func byChance(chance *rand.Rand, most int, among []string) string {
	var b strings.Builder
	for range chance.Intn(most + 1) {
		b.WriteString(among[chance.Intn(len(among))])
	}
	return b.String()
}
