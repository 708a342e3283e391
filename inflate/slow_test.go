package inflate_test

import (
	"bytes"
	"compress/flate"
	"fmt"
	"io"
	"math/rand"
	"slices"
	"testing"

	"pressmark/api"
	"pressmark/inflate"
)

// slow reads by the chapter's words: bits in a list, codes as signs. What it can't read it panics with.
type slow struct {
	bits []int
	at   int
	came []byte
	most int
}

// slowBlocks is what Blocks has to answer.
func slowBlocks(b []byte, most int) (a answer) {
	s := &slow{bits: bitsOf(b), most: max(most, 0)}
	defer func() {
		if e, ok := recover().(api.Errno); ok {
			a = answer{e: e}
		}
	}()
	for last := 0; last == 0; {
		last = s.number(1)
		s.block()
	}
	return answer{string(s.came), (s.at + 7) / 8, api.OK}
}

func (s *slow) number(width int) int {
	n := 0
	for i := range width {
		if s.at == len(s.bits) {
			panic(api.ErrShort)
		}
		n += s.bits[s.at] << i
		s.at++
	}
	return n
}

func (s *slow) put(c int) {
	if len(s.came) >= s.most {
		panic(api.ErrLimit)
	}
	s.came = append(s.came, byte(c))
}

func (s *slow) block() {
	switch s.number(2) {
	case 0:
		for s.at%8 > 0 {
			s.at++
		}
		n, turned := s.number(16), s.number(16)
		if n+turned != 65535 {
			panic(api.ErrForm)
		}
		for range n {
			s.put(s.number(8))
		}
	case 1:
		g := fixed()
		s.symbols(meaning(g.symbols), meaning(g.distances))
	case 2:
		s.told()
	case 3:
		panic(api.ErrForm)
	}
}

// meaning is what codes mean.
func meaning(codes []string) map[string]int {
	m := map[string]int{}
	for symbol, code := range codes {
		if code != "" {
			m[code] = symbol
		}
	}
	return m
}

func (s *slow) symbol(m map[string]int) int {
	code := ""
	for range 15 {
		code += string(rune('0' + s.number(1)))
		if symbol, ok := m[code]; ok {
			return symbol
		}
	}
	panic(api.ErrForm)
}

func (s *slow) symbols(m, far map[string]int) {
	for {
		symbol := s.symbol(m)
		switch {
		case symbol < 256:
			s.put(symbol)
		case symbol == 256:
			return
		default:
			n := s.span(lengths(), symbol-257)
			d := s.span(distances(), s.symbol(far))
			if d > len(s.came) {
				panic(api.ErrForm)
			}
			for range n {
				s.put(int(s.came[len(s.came)-d]))
			}
		}
	}
}

func (s *slow) span(l []span, symbol int) int {
	if symbol >= len(l) {
		panic(api.ErrForm)
	}
	return l[symbol].least + s.number(l[symbol].width)
}

// code is what the codes of lengths mean, if it may be.
func code(lengths []int) map[string]int {
	sum, above := 0, 0
	for _, length := range lengths {
		if length > 0 {
			sum += 1 << (15 - length)
			above++
		}
	}
	if sum > 1<<15 || sum != 1<<15 && above > 1 {
		panic(api.ErrForm)
	}
	return meaning(codesOf(lengths))
}

func (s *slow) told() {
	symbols := 257 + s.number(5)
	if symbols > 286 {
		panic(api.ErrForm)
	}
	distances := 1 + s.number(5)
	if distances > 30 {
		panic(api.ErrForm)
	}
	lengths := make([]int, 19)
	for _, symbol := range order()[:4+s.number(4)] {
		lengths[symbol] = s.number(3)
	}
	m := code(lengths)
	row := []int{}
	for len(row) < symbols+distances {
		n, times := s.symbol(m), 1
		switch n {
		case 16:
			if len(row) == 0 {
				panic(api.ErrForm)
			}
			n, times = row[len(row)-1], 3+s.number(2)
		case 17:
			n, times = 0, 3+s.number(3)
		case 18:
			n, times = 0, 11+s.number(7)
		}
		row = append(row, slices.Repeat([]int{n}, times)...)
	}
	if len(row) > symbols+distances || row[256] == 0 {
		panic(api.ErrForm)
	}
	s.symbols(code(row[:symbols]), code(row[symbols:]))
}

// meets asks Blocks what slowBlocks answers.
func meets(t *testing.T, what string, b []byte, most int) answer {
	t.Helper()
	want := slowBlocks(b, most)
	got := blocks(t, what, b, most)
	if got != want {
		holds(t, fmt.Sprintf("%s: Blocks(% x, %d)", what, b, most), got, want)
	}
	return got
}

// maker makes rows by chance, the same ones each time.
type maker struct{ *rand.Rand }

// lengths are those of a full code of n symbols, none above most, in any order, with noughts to fill size.
func (m maker) lengths(n, size, most int) []int {
	l := []int{0}
	for len(l) < n {
		// One leaf becomes two.
		i := m.Intn(len(l))
		if l[i] < most {
			l[i]++
			l = append(l, l[i])
		}
	}
	if n == 1 {
		l[0] = 1 + m.Intn(most)
	}
	l = append(l, make([]int, size-n)...)
	m.Shuffle(size, func(i, j int) { l[i], l[j] = l[j], l[i] })
	return l
}

// spell is lengths as pieces, by 16, 17 and 18 where chance says so.
func (m maker) spell(lengths []int) []piece {
	var l []piece
	for i := 0; i < len(lengths); {
		n := 1
		for i+n < len(lengths) && lengths[i+n] == lengths[i] {
			n++
		}
		switch {
		case i > 0 && lengths[i] == lengths[i-1] && n >= 3 && m.Intn(3) > 0:
			n = min(n, 3+m.Intn(4))
			l = append(l, piece{16, n - 3})
		case lengths[i] == 0 && n >= 11 && m.Intn(5) > 0:
			n = min(n, 11+m.Intn(128))
			l = append(l, piece{18, n - 11})
		case lengths[i] == 0 && n >= 3 && m.Intn(3) > 0:
			n = min(n, 3+m.Intn(8))
			l = append(l, piece{17, n - 3})
		default:
			n = 1
			l = append(l, piece{lengths[i], 0})
		}
		i += n
	}
	return l
}

// told begins a block of kind 2 and answers its tongue.
func (m maker) told(r *row, last int) tongue {
	symbols := m.lengths(2+m.Intn(256), 257+m.Intn(30), 15)
	for symbols[256] == 0 {
		m.Shuffle(len(symbols), func(i, j int) { symbols[i], symbols[j] = symbols[j], symbols[i] })
	}
	distances := at(1 + m.Intn(30))
	if m.Intn(8) > 0 {
		distances = m.lengths(1+m.Intn(len(distances)), len(distances), 15)
	}
	l := m.spell(slices.Concat(symbols, distances))
	// The same symbols as of the plainest code, other lengths.
	code := codeFor(l)
	used := []int{}
	for s, length := range code {
		if length > 0 {
			used = append(used, s)
		}
	}
	for i, length := range m.lengths(len(used), len(used), 7) {
		code[used[i]] = length
	}
	r.begin(last, 2).counts(len(symbols), len(distances), 19, code).pieces(code, l)
	return tongueOf(symbols, distances)
}

// pick is a symbol that has a code, or -1.
func (m maker) pick(codes []string) int {
	for range 1000 {
		if s := m.Intn(len(codes)); codes[s] != "" {
			return s
		}
	}
	return -1
}

// copies writes a length, and a distance, too far a one now and then, and answers how many bytes come.
func (m maker) copies(r *row, g tongue, symbol, came int) int {
	if symbol > 285 {
		if m.Intn(40) == 0 {
			r.text(g.symbols[symbol])
		}
		return 0
	}
	for range 20 {
		d := m.pick(g.distances)
		if d < 0 || d > 29 || distances()[d].least > came && m.Intn(200) > 0 {
			continue
		}
		more, far := m.Intn(1<<lengths()[symbol-257].width), m.Intn(1<<distances()[d].width)
		if distances()[d].least+far > came && m.Intn(200) > 0 {
			continue
		}
		r.text(g.symbols[symbol]).low(more, lengths()[symbol-257].width)
		r.text(g.distances[d]).low(far, distances()[d].width)
		return lengths()[symbol-257].least + more
	}
	return 0
}

// symbols writes some symbols and the end, and answers how many bytes came then.
func (m maker) symbols(r *row, g tongue, came int) int {
	for range m.Intn(40) {
		s := m.pick(g.symbols)
		if m.Intn(4) == 0 {
			s = 256 + m.Intn(len(g.symbols)-256)
		}
		switch {
		case s < 256:
			r.text(g.symbols[s])
			came++
		case s > 256 && g.symbols[s] != "":
			came += m.copies(r, g, s, came)
		}
	}
	r.end(g)
	return came
}

// blocks are one to four blocks.
func (m maker) blocks() *row {
	r, came := &row{}, 0
	n := 1 + m.Intn(4)
	for i := range n {
		last := (i + 1) / n
		switch m.Intn(4) {
		case 0:
			b := make([]byte, m.Intn(30))
			m.Read(b)
			r.stored(last, b)
			came += len(b)
		case 1:
			came = m.symbols(r.begin(last, 1), fixed(), came)
		default:
			came = m.symbols(r, m.told(r, last), came)
		}
	}
	return r
}

// P4.2, all of it: what comes, and each error, as by the chapter's words.

func TestBlocksByChance(t *testing.T) {
	m := maker{rand.New(rand.NewSource(1951))}
	count := map[api.Errno]int{}
	for range 700 {
		b := m.blocks().bytes(byte(m.Intn(2)))
		a := meets(t, "blocks", b, plenty)
		count[a.e]++
		for _, most := range []int{len(a.came), len(a.came) - 1, m.Intn(len(a.came) + 1)} {
			count[meets(t, "blocks, most", b, most).e]++
		}
		count[meets(t, "blocks, cut", b[:m.Intn(len(b))], plenty).e]++
		for range 4 {
			c := bytes.Clone(b)
			for range 1 + m.Intn(3) {
				c[m.Intn(len(c))] ^= 1 << m.Intn(8)
			}
			count[meets(t, "blocks, some bits turned", c, plenty).e]++
		}
		if t.Failed() {
			return
		}
	}
	for _, e := range []api.Errno{api.OK, api.ErrShort, api.ErrForm, api.ErrLimit} {
		if count[e] < 100 {
			t.Errorf("%v is met %d times: too few to tell", e, count[e])
		}
	}
}

func TestBytesByChance(t *testing.T) {
	m := maker{rand.New(rand.NewSource(1950))}
	for i := range 20000 {
		b := make([]byte, m.Intn(40))
		m.Read(b)
		if len(b) > 2 && i%2 == 0 {
			// More of these get beyond their beginning: of kind 2, of few lengths.
			b[0], b[1] = b[0]&0xC1|4, b[1]&0xE8
		}
		meets(t, "bytes", b, m.Intn(300)-10)
		if t.Failed() {
			return
		}
	}
}

func TestFewBytes(t *testing.T) {
	meets(t, "no byte", nil, 9)
	for i := range 256 {
		meets(t, "one byte", []byte{byte(i)}, 9)
		for j := range 256 {
			meets(t, "two bytes", []byte{byte(i), byte(j)}, 9)
		}
	}
}

// FuzzBlocks holds Blocks against slowBlocks, as go test -fuzz asks.
func FuzzBlocks(f *testing.F) {
	m := maker{rand.New(rand.NewSource(4))}
	for range 30 {
		f.Add(m.blocks().bytes(0), plenty)
	}
	f.Add([]byte{1, 1, 0, 254, 255, 97}, 1)
	f.Fuzz(func(t *testing.T, b []byte, most int) {
		meets(t, "bytes", b, min(most, plenty))
	})
}

// texts are bytes that are made small in other ways each.
func texts() map[string][]byte {
	chance := rand.New(rand.NewSource(28))
	words := []byte{}
	for len(words) < 200000 {
		words = append(words, []string{"archive ", "page ", "of ", "the ", "a", "document, ", "stream\n"}[chance.Intn(7)]...)
	}
	skew := make([]byte, 100000)
	for i := range skew {
		skew[i] = byte(chance.NormFloat64() * 9)
	}
	far := mixed(32768)
	return map[string][]byte{
		"nothing":   {},
		"a byte":    {'a'},
		"words":     words,
		"skew":      skew,
		"mixed":     mixed(150000),
		"alike":     bytes.Repeat([]byte{7}, 300000),
		"far":       slices.Concat(far, far, far),
		"in turns":  bytes.Repeat([]byte{0, 255, 1}, 50000),
		"few kinds": bytes.Map(func(r rune) rune { return 'a' + r%3 }, bytes.Repeat([]byte("abcdefghijklmnop qrs"), 4000)),
	}
}

// levels are those that the library's writers know.
func levels() []int {
	return []int{flate.HuffmanOnly, flate.DefaultCompression, 0, 1, 2, 3, 4, 5, 6, 7, 8, 9}
}

// What the library's writer makes small comes back.

func TestLibraryWrites(t *testing.T) {
	for name, b := range texts() {
		for _, level := range levels() {
			var w bytes.Buffer
			z, err := flate.NewWriter(&w, level)
			if err != nil {
				t.Fatal(err)
			}
			z.Write(b[:len(b)/3])
			z.Flush()
			z.Write(b[len(b)/3:])
			z.Close()
			n := w.Len()
			what := fmt.Sprintf("%s, level %d", name, level)
			holds(t, what, blocks(t, what, w.Bytes(), len(b)), answer{string(b), n, api.OK})
			holds(t, what, blocks(t, what, w.Bytes()[:n-1], len(b)), answer{e: api.ErrShort})
			if len(b) > 0 {
				holds(t, what, blocks(t, what, w.Bytes(), len(b)-1), answer{e: api.ErrLimit})
			}
			w.WriteString("behind")
			holds(t, what, blocks(t, what, w.Bytes(), len(b)), answer{string(b), n, api.OK})
		}
	}
}

// What the library's reader reads is read the same.

func TestLibraryReads(t *testing.T) {
	m := maker{rand.New(rand.NewSource(32001))}
	read := 0
	for range 400 {
		b := m.blocks().bytes(0)
		came, err := io.ReadAll(flate.NewReader(bytes.NewReader(b)))
		// It refuses some codes that the chapter takes: nothing is told by its errors.
		if err != nil {
			continue
		}
		read++
		holds(t, "what the library reads", blocks(t, "blocks", b, plenty), answer{string(came), len(b), api.OK})
	}
	if read < 50 {
		t.Errorf("the library reads %d of them: too few to tell", read)
	}
}

// R5: where bytes lie, and what lies behind them in memory, does not count.

func TestBytesWithinOthers(t *testing.T) {
	b := maker{rand.New(rand.NewSource(3))}.blocks().bytes(0)
	want := blocks(t, "alone", b, plenty)
	all := slices.Concat([]byte{1, 2, 3}, b, []byte{4, 5, 6})
	came, n, e := inflate.Blocks(all[3:3+len(b)], plenty)
	holds(t, "within others", answer{string(came), n, e}, want)
}
