package fixed_test

import (
	"bytes"
	"math"
	"math/big"
	"regexp"
	"slices"
	"strings"
	"testing"

	"pressmark/api"
	"pressmark/fixed"
)

// The greatest number that In holds, written out: 2147483647.99999.
const top = 214748364799999

// edges are numbers at which something begins or ends, of either sign.
func edges() []int64 {
	l := []int64{math.MinInt64}
	for _, n := range []int64{
		0, 1, 2, 3, 7, 9, 10, 33333, 66667, 99999, 100000, 100001, 150000, 200000, 300000, 999999,
		1 << 31, 1<<31 - 1, 1 << 32, 1<<32 + 1, 4634101, 4634102, 14654261, 146542615, 4634095000,
		api.MaxInt * api.One, top - 1, top, top + 1, top + 2, top / 2, top/2 + 1, top / 3, 107374182399999, 107374182400000,
		1844674407370955, 184467440737095, 184467440737096, 1 << 53, 1 << 62, math.MaxInt64 - 1, math.MaxInt64,
	} {
		l = append(l, n, -n)
	}
	return l
}

// spared is text as bytes, with room behind it that shows whether it is written to.
func spared(text string) []byte {
	b := append([]byte(text), 0xEE, 0xEE, 0xEE, 0xEE)
	return b[:len(text)]
}

// untouched tells if b, made by spared, is not what it was.
func untouched(t *testing.T, what string, b []byte, text string) {
	t.Helper()
	if string(b) != text || string(b[:len(b)+4][len(b):]) != "\xee\xee\xee\xee" {
		t.Errorf("%s: what was handed in is changed: %q", what, b[:len(b)+4])
	}
}

// In

func TestIn(t *testing.T) {
	for _, n := range edges() {
		if got, want := fixed.In(n), n >= -214748364799999 && n <= 214748364799999; got != want {
			t.Errorf("In(%d): %v, want %v", n, got, want)
		}
	}
}

// P2.1: Parse.

// read is what Parse answers.
type read struct {
	n     int64
	whole bool
	e     api.Errno
}

// parse asks Parse, and that it leaves what it is handed.
func parse(t *testing.T, text string) read {
	t.Helper()
	b := spared(text)
	n, whole, e := fixed.Parse(b)
	untouched(t, "Parse", b, text)
	return read{n, whole, e}
}

var shape = regexp.MustCompile(`^[+-]?(?:([0-9]+)(\.[0-9]*)?|(\.[0-9]+))$`)

// slow is what Parse has to answer, by fractions of any size.
func slow(text string) read {
	m := shape.FindStringSubmatch(text)
	if m == nil || strings.Contains(text, "\n") {
		return read{e: api.ErrForm}
	}
	ahead, ok := new(big.Int).SetString("0"+m[1], 10)
	if !ok || ahead.Cmp(big.NewInt(2147483647)) > 0 {
		return read{e: api.ErrRange}
	}
	r, _ := new(big.Rat).SetString("0" + strings.TrimLeft(text, "+-") + "0")
	whole := !strings.Contains(text, ".")
	if whole {
		r = new(big.Rat).SetInt(ahead)
	} else {
		r.Mul(r, big.NewRat(100000, 1))
	}
	n := new(big.Int).Quo(r.Num(), r.Denom()).Int64()
	if text[0] == '-' {
		n = -n
	}
	return read{n: n, whole: whole}
}

func TestParse(t *testing.T) {
	for text, want := range map[string]read{
		"-1.5":                        {n: -150000},
		"007":                         {n: 7, whole: true},
		".":                           {e: api.ErrForm},
		"0":                           {whole: true},
		"-0":                          {whole: true},
		"+0":                          {whole: true},
		"-0.0":                        {},
		"1":                           {n: 1, whole: true},
		"+17":                         {n: 17, whole: true},
		"-98":                         {n: -98, whole: true},
		"34.5":                        {n: 3450000},
		"-3.62":                       {n: -362000},
		"+123.6":                      {n: 12360000},
		"0123456789":                  {n: 123456789, whole: true},
		"9.87654":                     {n: 987654},
		"00.00":                       {},
		"12.00001":                    {n: 1200001},
		"-12.00001":                   {n: -1200001},
		"12.10000":                    {n: 1210000},
		"2147483647":                  {n: 2147483647, whole: true},
		"-2147483647":                 {n: -2147483647, whole: true},
		"+0000000000000002147483647":  {n: 2147483647, whole: true},
		"-00000000000000002147483647": {n: -2147483647, whole: true},
		"2147483648":                  {e: api.ErrRange},
		"-2147483648":                 {e: api.ErrRange},
		"+002147483648":               {e: api.ErrRange},
		"2147483647.":                 {n: 214748364700000},
		"2147483647.0":                {n: 214748364700000},
		"-2147483647.00001":           {n: -214748364700001},
		"2147483647.99999":            {n: top},
		"-002147483647.99999":         {n: -top},
		"2147483647.999999999":        {n: top},
		"2147483648.":                 {e: api.ErrRange},
		"-2147483648.0":               {e: api.ErrRange},
		"0002147483648.99999":         {e: api.ErrRange},
		"2147483650":                  {e: api.ErrRange},
		"3000000000":                  {e: api.ErrRange},
		"10000000000":                 {e: api.ErrRange},
		"9223372036854775807":         {e: api.ErrRange},
		"-9223372036854775808":        {e: api.ErrRange},
		"18446744073709551616":        {e: api.ErrRange},
		"18446744073709551617":        {e: api.ErrRange},
		"36893488147419103232.5":      {e: api.ErrRange},
		"4294967296":                  {e: api.ErrRange},
		"4294967297.0":                {e: api.ErrRange},
	} {
		if got := parse(t, text); got != want {
			t.Errorf("Parse(%q): %v, want %v", text, got, want)
		}
	}
}

func TestParseBehindThePoint(t *testing.T) {
	for text, want := range map[string]int64{
		"1.":                      100000,
		"-1.":                     -100000,
		"+7.":                     700000,
		".5":                      50000,
		"-.5":                     -50000,
		"+.00001":                 1,
		"-.00001":                 -1,
		".000001":                 0,
		"-.000009":                0,
		"-0.00000999999":          0,
		"0.12345":                 12345,
		"0.123459":                12345,
		"-0.123459":               -12345,
		"0.1234599999999999999":   12345,
		"0.999999":                99999,
		"-1.99999999":             -199999,
		"0.1000000":               10000,
		"0.01":                    1000,
		"0.001":                   100,
		"0.0001":                  10,
		"1.000009223372036854775": 100000,
	} {
		if got := parse(t, text); got != (read{n: want}) {
			t.Errorf("Parse(%q): %v, want %d", text, got, want)
		}
	}
}

func TestParseForm(t *testing.T) {
	for _, text := range []string{
		"", "+", "-", ".", "+.", "-.", "..", "1..", "..1", "1.2.", ".1.", "1.2.3", ".1.2", "++1", "--1", "+-1", "-+1", "1-", "1+", "1-1", "1.-1", "-.-1", ".+1", "+-", "-+.",
		" 1", "1 ", "1. ", "1 .", "1,5", "a", "1a", "a1", "1.a", "0x1", "1e5", "1E5", "1_0", "1\x00", "\x001", "\n1", "1\n", "1.5\n", "\xff", "1\xff", "\x80.1", "/1", "1/", "1:", ":1", "1;", "1.:", "1./",
		"٣", "１", "−1", "inf", "NaN", "()", "1.5-", "99999999999x", "99999999999..", "2147483648-", "2147483648.1.", "x2147483648", "2147483648 ", "9999999999.99999x", "--2147483648",
	} {
		if got := parse(t, text); got != (read{e: api.ErrForm}) {
			t.Errorf("Parse(%q): %v, want the form's error", text, got)
		}
	}
	if n, whole, e := fixed.Parse(nil); n != 0 || whole || e != api.ErrForm {
		t.Errorf("Parse(nil): %d, %v, %v", n, whole, e)
	}
}

func TestParseEachByte(t *testing.T) {
	for c := range 256 {
		s := string([]byte{byte(c)})
		for _, text := range []string{s, "1" + s, s + "1", "-" + s + "1", "1." + s, "." + s, "1" + s + "2", "2147483647" + s, s + "2147483648"} {
			if got, want := parse(t, text), slow(text); got != want {
				t.Errorf("Parse(%q): %v, want %v", text, got, want)
			}
		}
	}
}

// texts are all texts of at most size signs of those given.
func texts(signs string, size int) []string {
	all := []string{""}
	for i := 0; i < len(all); i++ {
		for _, c := range signs {
			if len(all[i]) < size {
				all = append(all, all[i]+string(c))
			}
		}
	}
	return all
}

func TestParseTriesAll(t *testing.T) {
	for _, text := range texts("+-.09x", 6) {
		if got, want := parse(t, text), slow(text); got != want {
			t.Fatalf("Parse(%q): %v, want %v", text, got, want)
		}
	}
	for _, ahead := range []string{"", "0", "214748364", "2147483646", "2147483647", "2147483648", "2147483649", "21474836470", "000002147483647", "000002147483648"} {
		for _, behind := range texts("019", 6) {
			for _, sign := range []string{"", "+", "-"} {
				text := sign + ahead + "." + behind
				if got, want := parse(t, text), slow(text); got != want {
					t.Fatalf("Parse(%q): %v, want %v", text, got, want)
				}
			}
		}
	}
}

func TestParseLong(t *testing.T) {
	row := func(s string) string { return strings.Repeat(s, 1000000) }
	for _, c := range []struct {
		text string
		want read
	}{
		{row("0"), read{whole: true}},
		{"-" + row("0") + "12", read{n: -12, whole: true}},
		{row("0") + "2147483647." + row("9"), read{n: top}},
		{row("0") + "2147483648." + row("0"), read{e: api.ErrRange}},
		{row("9"), read{e: api.ErrRange}},
		{"1" + row("0"), read{e: api.ErrRange}},
		{"1" + row("0") + ".", read{e: api.ErrRange}},
		{row("9") + ".x", read{e: api.ErrForm}},
		{"." + row("0") + "1", read{}},
		{"-." + row("9"), read{n: -99999}},
		{row("-"), read{e: api.ErrForm}},
		{row("."), read{e: api.ErrForm}},
	} {
		n, whole, e := fixed.Parse([]byte(c.text))
		if got := (read{n, whole, e}); got != c.want {
			t.Errorf("Parse of %d bytes, %q ..: %v, want %v", len(c.text), c.text[:3], got, c.want)
		}
	}
}

// P2.2: Text.

func TestText(t *testing.T) {
	for n, want := range map[int64]string{
		-150000:       "-1.5",
		200000:        "2.0",
		0:             "0.0",
		1:             "0.00001",
		-1:            "-0.00001",
		10:            "0.0001",
		100:           "0.001",
		1000:          "0.01",
		-10000:        "-0.1",
		10001:         "0.10001",
		10010:         "0.1001",
		99999:         "0.99999",
		100000:        "1.0",
		-100000:       "-1.0",
		100001:        "1.00001",
		-100100:       "-1.001",
		1000000:       "10.0",
		12345678:      "123.45678",
		-12345600:     "-123.456",
		top:           "2147483647.99999",
		-top:          "-2147483647.99999",
		top + 1:       "2147483648.0",
		-top - 1:      "-2147483648.0",
		math.MaxInt64: "92233720368547.75807",
		math.MinInt64: "-92233720368547.75808",
	} {
		if got := fixed.Text(n, false); got != want {
			t.Errorf("Text(%d, false): %q, want %q", n, got, want)
		}
	}
}

func TestTextWhole(t *testing.T) {
	for _, n := range edges() {
		if got, want := fixed.Text(n, true), big.NewInt(n).String(); got != want {
			t.Errorf("Text(%d, true): %q, want %q", n, got, want)
		}
	}
	for n, want := range map[int64]string{0: "0", 7: "7", -7: "-7", 10: "10", -100: "-100", 200000: "200000"} {
		if got := fixed.Text(n, true); got != want {
			t.Errorf("Text(%d, true): %q, want %q", n, got, want)
		}
	}
}

// slowText is what Text has to answer of parts, by fractions of any size.
func slowText(n int64) string {
	s := big.NewRat(n, 100000).FloatString(5)
	for strings.HasSuffix(s, "0") && !strings.HasSuffix(s, ".0") {
		s = s[:len(s)-1]
	}
	return s
}

func TestTextOfParts(t *testing.T) {
	for _, n := range edges() {
		if got, want := fixed.Text(n, false), slowText(n); got != want {
			t.Errorf("Text(%d, false): %q, want %q", n, got, want)
		}
	}
	for n := int64(-110000); n <= 110000; n += 7 {
		if got, want := fixed.Text(n, false), slowText(n); got != want {
			t.Fatalf("Text(%d, false): %q, want %q", n, got, want)
		}
	}
}

func TestTextIsReadAgain(t *testing.T) {
	for n := int64(-100000); n <= 100000; n++ {
		if got := parse(t, fixed.Text(n, false)); got != (read{n: n}) {
			t.Fatalf("Parse(Text(%d, false)): %v", n, got)
		}
	}
	for _, n := range edges() {
		if got := parse(t, fixed.Text(n, false)); fixed.In(n) && got != (read{n: n}) || !fixed.In(n) && got != (read{e: api.ErrRange}) {
			t.Errorf("Parse(Text(%d, false)): %v", n, got)
		}
		held := n >= -api.MaxInt && n <= api.MaxInt
		if got := parse(t, fixed.Text(n, true)); held && got != (read{n: n, whole: true}) || !held && got != (read{e: api.ErrRange}) {
			t.Errorf("Parse(Text(%d, true)): %v", n, got)
		}
	}
}

// P2.3: Add, Mul, Div.

// held is n, if it is In, as Add, Mul and Div answer it.
func held(n *big.Int) (int64, bool) {
	if new(big.Int).Abs(n).Cmp(big.NewInt(top)) > 0 {
		return 0, false
	}
	return n.Int64(), true
}

// slowAdd is what Add has to answer, by numbers of any size.
func slowAdd(l []int64) (int64, bool) {
	sum := new(big.Int)
	for _, n := range l {
		sum.Add(sum, big.NewInt(n))
		_, one := held(big.NewInt(n))
		if _, all := held(sum); !one || !all {
			return 0, false
		}
	}
	return held(sum)
}

// slowScale is a times b by c, cut towards 0, by numbers of any size.
func slowScale(a, b, c int64) (int64, bool) {
	for _, n := range []int64{a, b, c} {
		if _, ok := held(big.NewInt(n)); !ok {
			return 0, false
		}
	}
	if c == 0 {
		return 0, false
	}
	p := new(big.Int).Mul(big.NewInt(a), big.NewInt(b))
	return held(p.Quo(p, big.NewInt(c)))
}

func TestAdd(t *testing.T) {
	for _, c := range []struct {
		l    []int64
		want int64
		ok   bool
	}{
		{nil, 0, true},
		{[]int64{}, 0, true},
		{[]int64{0}, 0, true},
		{[]int64{-5}, -5, true},
		{[]int64{1, 2, 3, 4}, 10, true},
		{[]int64{100000, -250000, 1}, -149999, true},
		{[]int64{top}, top, true},
		{[]int64{-top}, -top, true},
		{[]int64{top + 1}, 0, false},
		{[]int64{-top - 1}, 0, false},
		{[]int64{top - 1, 1}, top, true},
		{[]int64{1 - top, -1}, -top, true},
		{[]int64{top, 1}, 0, false},
		{[]int64{-top, -1}, 0, false},
		{[]int64{top, -top, top}, top, true},
		{[]int64{top, 0, -top, -top}, -top, true},
		{[]int64{-top, top, 5}, 5, true},
		// A sum on the way is not In, though the whole is; the same summands, otherwise in row, are well.
		{[]int64{top, 1, -1}, 0, false},
		{[]int64{top, -1, 1}, top, true},
		{[]int64{-top, -1, 1}, 0, false},
		{[]int64{-top, 1, -1}, -top, true},
		{[]int64{top, top, -top}, 0, false},
		{[]int64{1, 2, top, -3}, 0, false},
		// A summand is not In, though the sum is.
		{[]int64{-1, top + 1}, 0, false},
		{[]int64{1, -top - 1}, 0, false},
		{[]int64{top + 1, -1}, 0, false},
		{[]int64{0, math.MaxInt64}, 0, false},
		{[]int64{math.MinInt64, math.MaxInt64}, 0, false},
		{[]int64{math.MaxInt64, math.MinInt64}, 0, false},
		{[]int64{math.MaxInt64, math.MaxInt64, 2}, 0, false},
		{[]int64{math.MinInt64, math.MinInt64}, 0, false},
		{[]int64{5, math.MinInt64, math.MinInt64}, 0, false},
	} {
		if n, ok := fixed.Add(c.l...); n != c.want || ok != c.ok {
			t.Errorf("Add(%v): %d, %v, want %d, %v", c.l, n, ok, c.want, c.ok)
		}
	}
	if n, ok := fixed.Add(); n != 0 || !ok {
		t.Errorf("Add(): %d, %v", n, ok)
	}
	if n, ok := fixed.Add(150000, -50000); n != 100000 || !ok {
		t.Errorf("Add(150000, -50000): %d, %v", n, ok)
	}
}

func TestAddTriesEdges(t *testing.T) {
	l := edges()
	for _, a := range l {
		for _, b := range l {
			for _, c := range l {
				got, ok := fixed.Add(a, b, c)
				if want, may := slowAdd([]int64{a, b, c}); got != want || ok != may {
					t.Fatalf("Add(%d, %d, %d): %d, %v, want %d, %v", a, b, c, got, ok, want, may)
				}
			}
		}
	}
}

func TestAddMany(t *testing.T) {
	l := slices.Repeat([]int64{top, -top}, 500000)
	if n, ok := fixed.Add(l...); n != 0 || !ok {
		t.Errorf("Add of many: %d, %v", n, ok)
	}
	if n, ok := fixed.Add(append(l, top, 1)...); n != 0 || ok {
		t.Errorf("Add of many, too great at the end: %d, %v", n, ok)
	}
}

func TestAddLeavesItsList(t *testing.T) {
	for _, l := range [][]int64{{1, 2, 3, -7, -7}, {top, 1, 3, -7, -7}} {
		was := slices.Clone(l)
		fixed.Add(l[:3]...)
		if !slices.Equal(l, was) {
			t.Errorf("Add: what was handed in is changed: %v, was %v", l, was)
		}
	}
}

// product is a case of Mul or Div.
type product struct {
	a, b, want int64
	ok         bool
}

// eitherSign asks a case as it is and with the signs of a and of b turned round.
func eitherSign(t *testing.T, what string, do func(a, b int64) (int64, bool), c product) {
	t.Helper()
	for _, s := range [][2]int64{{1, 1}, {1, -1}, {-1, 1}, {-1, -1}} {
		if n, ok := do(c.a*s[0], c.b*s[1]); n != c.want*s[0]*s[1] || ok != c.ok {
			t.Errorf("%s(%d, %d): %d, %v, want %d, %v", what, c.a*s[0], c.b*s[1], n, ok, c.want*s[0]*s[1], c.ok)
		}
	}
}

func TestMul(t *testing.T) {
	for _, c := range []product{
		{150000, 150000, 225000, true},
		{0, 0, 0, true},
		{0, top, 0, true},
		{100000, 100000, 100000, true},
		{100000, 12345, 12345, true},
		{1, 1, 0, true},
		{1, 99999, 0, true},
		{1, 100000, 1, true},
		{1, 199999, 1, true},
		{333333, 333333, 1111108, true},
		{99999, 99999, 99998, true},
		{top, 100000, top, true},
		{100000, top, top, true},
		{top, 99999, 214746217316351, true},
		{top, 100001, 0, false},
		{top, 1, 2147483647, true},
		{top, top, 0, false},
		{107374182399999, 200000, 214748364799998, true},
		{107374182400000, 200000, 0, false},
		{top + 1, 0, 0, false},
		{0, top + 1, 0, false},
		{top + 1, 1, 0, false},
		{1, top + 1, 0, false},
		{top + 1, top + 1, 0, false},
		{math.MaxInt64, 0, 0, false},
		{0, math.MaxInt64, 0, false},
		{math.MaxInt64, math.MaxInt64, 0, false},
	} {
		eitherSign(t, "Mul", fixed.Mul, c)
	}
}

func TestDiv(t *testing.T) {
	for _, c := range []product{
		{100000, 300000, 33333, true},
		{200000, 300000, 66666, true},
		{0, 1, 0, true},
		{0, top, 0, true},
		{150000, 50000, 300000, true},
		{1, 100000, 1, true},
		{1, 100001, 0, true},
		{1, 3, 33333, true},
		{2, 3, 66666, true},
		{1, top, 0, true},
		{top, 100000, top, true},
		{top, top, 100000, true},
		{top, 100001, 214746217337825, true},
		{top, 99999, 0, false},
		{top, 1, 0, false},
		{2147483647, 1, 214748364700000, true},
		{2147483648, 1, 0, false},
		{top - 1, top, 99999, true},
		{top, top - 1, 100000, true},
		{0, 0, 0, false},
		{1, 0, 0, false},
		{top, 0, 0, false},
		{top + 1, 0, 0, false},
		{top + 1, top + 1, 0, false},
		{top + 1, 100000, 0, false},
		{top + 1, 200000, 0, false},
		{0, top + 1, 0, false},
		{1, top + 1, 0, false},
		{184467440737095, 1, 0, false},
		{184467440737096, 1, 0, false},
		{math.MaxInt64, 0, 0, false},
		{math.MaxInt64, math.MaxInt64, 0, false},
		{0, math.MaxInt64, 0, false},
	} {
		eitherSign(t, "Div", fixed.Div, c)
	}
}

func TestMulAndDivTryEdges(t *testing.T) {
	for _, a := range edges() {
		for _, b := range edges() {
			got, ok := fixed.Mul(a, b)
			if want, may := slowScale(a, b, 100000); got != want || ok != may {
				t.Errorf("Mul(%d, %d): %d, %v, want %d, %v", a, b, got, ok, want, may)
			}
			got, ok = fixed.Div(a, b)
			if want, may := slowScale(a, 100000, b); got != want || ok != may {
				t.Errorf("Div(%d, %d): %d, %v, want %d, %v", a, b, got, ok, want, may)
			}
		}
	}
}

func TestMulAndDivTrySmall(t *testing.T) {
	for a := int64(-1000000); a <= 1000000; a += 33337 {
		for b := int64(-1000000); b <= 1000000; b += 12347 {
			got, ok := fixed.Mul(a, b)
			if want := a * b / 100000; got != want || !ok {
				t.Fatalf("Mul(%d, %d): %d, %v, want %d", a, b, got, ok, want)
			}
			got, ok = fixed.Div(a, b)
			if want := a * 100000 / b; got != want || !ok {
				t.Fatalf("Div(%d, %d): %d, %v, want %d", a, b, got, ok, want)
			}
		}
	}
}

// R5: the same is answered again, whatever was asked between.

func TestAskedAgain(t *testing.T) {
	ask := func() string {
		var all bytes.Buffer
		for _, n := range edges() {
			p, ok := fixed.Mul(n, 7)
			q, may := fixed.Div(n, 7)
			all.WriteString(fixed.Text(n, ok) + " " + fixed.Text(p, false) + " " + fixed.Text(q, may) + "\n")
		}
		return all.String()
	}
	if ask() != ask() {
		t.Error("asked again, it is answered otherwise")
	}
}
