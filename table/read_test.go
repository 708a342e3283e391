package table_test

import (
	"fmt"
	"runtime"
	"strings"
	"testing"

	"pressmark/api"
	"pressmark/cos"
	"pressmark/lex"
	"pressmark/parse"
	"pressmark/table"
)

// P15.1: Read.

// aheads are texts that do not count ahead of a token.
var aheads = []string{"", " ", "%xref\n", "\x00\t\n\f\r %(\r"}

// reads asks that b is a section, whatever blank stands ahead and whatever behind.
func reads(t *testing.T, b string, trailer api.Obj, rows ...table.Row) {
	t.Helper()
	for _, ahead := range aheads {
		for _, behind := range []string{"", " ", "\n", "%x", ">>", "R", "(", ")", "1", "\nstartxref\n0\n%%EOF", "stream\n", "xref trailer<<>>"} {
			all := ahead + b + behind
			given := spared(all)
			holds(t, fmt.Sprintf("%q", all), read(parse.New(given, 28)), came(trailer, len(ahead)+len(b), rows...))
			untouched(t, all, given, all)
		}
	}
	everywhere(t, b, 28)
}

// fails asks that b is no section, by an error at a place, whatever blank stands ahead, and whatever of behind stands behind.
func fails(t *testing.T, b string, e api.Errno, at int, behind ...string) {
	t.Helper()
	for _, ahead := range aheads {
		for _, rest := range append(behind, "") {
			all := ahead + b + rest
			given := spared(all)
			p := parse.New(given, 28)
			holds(t, fmt.Sprintf("%q", all), read(p), fault(e, len(ahead)+at))
			holds(t, fmt.Sprintf("%q, once more", all), read(p), slowRead(all, len(ahead)+at, 28))
			untouched(t, all, given, all)
		}
	}
	if len(b) < 1000 {
		everywhere(t, b, 28)
	}
}

// Entries, and texts of which each ends where a token may stand.
const (
	one   = "0000000016 00000 n \n"
	two   = "0000000003 65535 f\r\n"
	three = "9999999999 99999 n \r"
	end   = "trailer<<>>"
)

var heads = []string{"", "xref ", "xref\n5 ", "xref 0 0 ", "xref 0 1\n" + one, "xref 0 1\n" + one + "7 ", "xref 0 2\n" + one + two + "9 0\n", "xref trailer "}

func TestExample(t *testing.T) {
	reads(t, "xref\n0 1\n0000000000 65535 f \ntrailer\n<<>>", cos.Dict(), free(0, 0, 65535))
}

func TestNothingLeft(t *testing.T) {
	for _, head := range append(heads, "xref", "xref trailer", "xref 0 1\n"+one+"trailer", "xref 0 0", "xref 7", "xref 0 1\n"+one, "xref 0 1\n"+one+"7", "xref 0 1\n") {
		for _, blank := range []string{"", " ", "\x00\t\n\f\r "} {
			fails(t, head+blank, api.ErrShort, len(head+blank))
		}
		if strings.HasSuffix(head, " 1\n") {
			// Ahead of an entry a comment is not blank.
			fails(t, head+"%x", api.ErrShort, len(head))
			continue
		}
		fails(t, head+"%", api.ErrShort, len(head)+1)
		fails(t, head+" %x\r", api.ErrShort, len(head)+4)
	}
}

func TestRefusedTokens(t *testing.T) {
	for b, e := range map[string]api.Errno{
		")":                                    api.ErrForm,
		"> ":                                   api.ErrForm,
		"{":                                    api.ErrForm,
		"}":                                    api.ErrForm,
		"(xref":                                api.ErrShort,
		"<4":                                   api.ErrShort,
		"<4x>":                                 api.ErrForm,
		"/#4":                                  api.ErrForm,
		"/#00":                                 api.ErrForm,
		"+":                                    api.ErrForm,
		"0-":                                   api.ErrForm,
		"1.2.3":                                api.ErrForm,
		"1x":                                   api.ErrForm,
		"0xref":                                api.ErrForm,
		"2147483648":                           api.ErrRange,
		"-99999999999999999999999":             api.ErrRange,
		strings.Repeat("w", 128):               api.ErrLong,
		"xref" + strings.Repeat("f", 124):      api.ErrLong,
		"/" + strings.Repeat("w", 128):         api.ErrLong,
		"(" + strings.Repeat("w", 32768) + ")": api.ErrLong,
		"<" + strings.Repeat("41", 32768) + "> 0 obj": api.ErrLong,
	} {
		for _, head := range heads {
			fails(t, head+b, e, len(head))
			if e != api.ErrShort {
				fails(t, head+b, e, len(head), " ", " 0 1\n"+one+end)
			}
		}
	}
}

// tokens are some of each kind but the end.
var tokens = []string{"0", "1", "-1", "+5", "8388607", "8388608", "2147483647", "-2147483647", "0.0", "1.", "-.5", "5.0", "(xref)", "()", "(0)", "<78726566>", "<>", "/xref", "/trailer", "/", "/0", "[", "]", "<<", ">>", "xref", "trailer", "Xref", "XREF", "xre", "xrefs", "xref0", "xref.", "startxref", "Trailer", "traile", "trailers", "trailer#", "xref#", "null", "true", "R", "n", "f", "obj", "\xff", "\x80xref", "'", "\""}

func TestOtherTokensAhead(t *testing.T) {
	for _, b := range tokens {
		if b != "xref" {
			fails(t, b, api.ErrForm, 0, " ", "%x", "\nxref 0 0 trailer<<>>", " 0 1\n"+one+end)
		}
	}
}

func TestOtherTokensAheadOfAPart(t *testing.T) {
	for _, b := range tokens {
		switch b {
		case "0", "1", "+5", "8388607":
			reads(t, "xref "+b+" 0 "+end, cos.Dict())
			reads(t, "xref 0 1\n"+one+b+" 0\n"+end, cos.Dict(), placed(0, 16, 0))
		case "trailer":
			reads(t, "xref "+b+"<<>>", cos.Dict())
			reads(t, "xref 0 1\n"+one+b+"<<>>", cos.Dict(), placed(0, 16, 0))
		default:
			for _, head := range []string{"xref ", "xref\n0 0 ", "xref 8388607 0\n", "xref 0 1 " + one, "xref 0 2\n" + one + two + " ", "xref 1 1\n" + three + "0 1\n" + two + "%x\n"} {
				fails(t, head+b, api.ErrForm, len(head), " ", "%x", " 0 trailer<<>>", "\n"+end)
			}
		}
	}
}

func TestOtherTokensAsACount(t *testing.T) {
	for _, b := range tokens {
		for head, rows := range map[string][]table.Row{"xref 7 ": nil, "xref\n7%x\n": nil, "xref 0 1 " + one + "7\r\n": {placed(0, 16, 0)}} {
			switch b {
			case "0":
				reads(t, head+b+" "+end, cos.Dict(), rows...)
			case "1":
				reads(t, head+b+" "+three+end, cos.Dict(), append(rows, placed(7, 9999999999, 99999))...)
			case "+5":
				reads(t, head+b+" "+strings.Repeat(two, 5)+end, cos.Dict(), append(rows, free(7, 3, 65535), free(8, 3, 65535), free(9, 3, 65535), free(10, 3, 65535), free(11, 3, 65535))...)
			default:
				fails(t, head+b, api.ErrForm, len(head), " ", "%x", " "+one+end, "\n"+end)
			}
		}
	}
}

func TestFirst(t *testing.T) {
	for b, n := range map[string]int{"0": 0, "-0": 0, "+0": 0, "1": 1, "007": 7, "+5": 5, "65536": 65536, "8388606": 8388606, "8388607": 8388607} {
		reads(t, "xref "+b+" 0 "+end, cos.Dict())
		reads(t, "xref "+b+" 1 "+one+end, cos.Dict(), placed(n, 16, 0))
		reads(t, "xref 3 1\n"+two+b+" 1\n"+one+end, cos.Dict(), free(3, 3, 65535), placed(n, 16, 0))
	}
	for _, b := range []string{"8388608", "8388609", "16777216", "2147483647", "-1", "-8388607", "-2147483647"} {
		for _, count := range []string{"0", "1", "-1", "2147483647", "2147483648", "x", ")", ""} {
			for _, head := range []string{"xref ", "xref 3 1\n" + two} {
				fails(t, head+b+" "+count, api.ErrForm, len(head), "\n", "\n"+one+end)
			}
		}
	}
}

func TestCount(t *testing.T) {
	for _, c := range []struct {
		first, most int // the greatest count that there may be
	}{{0, 8388608}, {1, 8388607}, {2, 8388606}, {8388600, 8}, {8388605, 3}, {8388606, 2}, {8388607, 1}} {
		for _, count := range []int{c.most + 1, c.most + 2, 8388609, 16777216, 2147483647, -1, -2, -8388608, -2147483647} {
			head := fmt.Sprint("xref ", c.first, " ")
			fails(t, head+fmt.Sprint(count), api.ErrForm, len(head), "\n", "\n"+one+end, "\n"+one+one+one+end)
			fails(t, "xref 0 1 "+one+head[5:]+fmt.Sprint(count), api.ErrForm, len(head)+24, "\n", "\n"+one+end)
		}
		if c.most < 10 {
			var rows []table.Row
			for i := range c.most {
				rows = append(rows, placed(c.first+i, 16, 0))
			}
			reads(t, fmt.Sprint("xref ", c.first, " ", c.most, "\n", strings.Repeat(one, c.most), end), cos.Dict(), rows...)
		}
		for _, count := range []int{c.most, c.most - 1} {
			head := fmt.Sprint("xref ", c.first, " ", count, "\n")
			if n := min(count-1, 3); n >= 0 {
				fails(t, head+strings.Repeat(one, n), api.ErrShort, len(head)+20*n)
				fails(t, head+strings.Repeat(one, n)+end, api.ErrShort, len(head)+20*n)
			}
		}
	}
	for b, rows := range map[string][]table.Row{"0": nil, "-0": nil, "+00": nil, "1": {free(9, 3, 65535)}, "+1": {free(9, 3, 65535)}, "01": {free(9, 3, 65535)}} {
		reads(t, "xref 9 "+b+" "+strings.Repeat(two, len(rows))+end, cos.Dict(), rows...)
	}
}

func TestWhites(t *testing.T) {
	for _, blank := range []string{" ", "\x00", "\t", "\n", "\f", "\r", "\r\n", "\n\n", " \n", "  \n", "\x00\t\n\f\r ", strings.Repeat("\r\n", 50)} {
		reads(t, "xref 4 2"+blank+one+two+end, cos.Dict(), placed(4, 16, 0), free(5, 3, 65535))
		reads(t, "xref 4 1"+blank+one+"6 1"+blank+two+end, cos.Dict(), placed(4, 16, 0), free(6, 3, 65535))
		reads(t, "xref 4 0"+blank+end, cos.Dict())
		// None between entries.
		fails(t, "xref 4 2"+blank+one+blank+two+end, api.ErrForm, 8+len(blank)+20)
	}
	for c := range 256 {
		s := string([]byte{byte(c)})
		b := "xref 4 1 " + s + one + end
		white := strings.Contains("\x00\t\n\f\r ", s)
		if white {
			holds(t, fmt.Sprintf("%q", b), read(parse.New([]byte(b), 28)), came(cos.Dict(), len(b), placed(4, 16, 0)))
		} else {
			holds(t, fmt.Sprintf("%q", b), read(parse.New([]byte(b), 28)), fault(api.ErrForm, 9))
		}
		// Right behind the count.
		b = "xref 4 1" + s + one + end
		switch {
		case white:
			holds(t, fmt.Sprintf("%q", b), read(parse.New([]byte(b), 28)), came(cos.Dict(), len(b), placed(4, 16, 0)))
		case !lex.Regular(c):
			holds(t, fmt.Sprintf("%q", b), read(parse.New([]byte(b), 28)), fault(api.ErrForm, 8))
		default:
			// It is one of the count's signs, and so are the digits behind it.
			got := read(parse.New([]byte(b), 28))
			holds(t, fmt.Sprintf("%q", b), got, slowRead(b, 0, 28))
			if got.e == api.OK || got.pos != 7 {
				t.Errorf("%q: %v", b, got)
			}
		}
	}
}

func TestNoWhites(t *testing.T) {
	// The digits of an entry go on with the count.
	fails(t, "xref 4 1"+one+end, api.ErrRange, 7)
	fails(t, "xref 4 0"+one, api.ErrShort, 19)
	fails(t, "xref 4 0"+one+two+end, api.ErrForm, 19)
	// Brackets end it, and begin no entry.
	for _, b := range []string{"(", "<<>>", "[", "/x", ">", "]", "{"} {
		fails(t, "xref 4 1"+b, api.ErrShort, 8)
		fails(t, "xref 4 1"+b+one+end, api.ErrForm, 8)
		fails(t, "xref 4 1"+b+strings.Repeat(" ", 20-len(b)), api.ErrForm, 8)
		fails(t, "xref 4 1"+b+strings.Repeat(" ", 19-len(b)), api.ErrShort, 8)
	}
	fails(t, "xref 4 0"+end, api.ErrForm, 7)
}

func TestComments(t *testing.T) {
	for _, c := range []string{"%\n", "%x\r", "%" + one, "%" + strings.Repeat("x", 30) + "\n"} {
		for _, blank := range []string{"", " ", "\n", " \r\n"} {
			fails(t, "xref 4 1"+blank+c+one+end, api.ErrForm, 8+len(blank))
			fails(t, "xref 4 2\n"+one+blank+c+one+end, api.ErrForm, 29)
			if len(c) < 20 {
				fails(t, "xref 4 1"+blank+c, api.ErrShort, 8+len(blank))
			}
			// Where no entry stands, it is blank.
			reads(t, "xref"+c+"4"+c+blank+"0"+c+blank+"trailer"+c+"<<"+c+">>", cos.Dict())
			reads(t, "xref 4"+c+"1\n"+one+c+blank+"2"+c+"1 "+one+blank+c+"trailer"+blank+c+"<<>>", cos.Dict(), placed(4, 16, 0), placed(2, 16, 0))
		}
	}
}

func TestEachByteOfAnEntry(t *testing.T) {
	for _, entry := range []string{one, two, three, "1234567890 12345 f \n", "0987654321 67890 n\r\n"} {
		for place := range 20 {
			for c := range 256 {
				for n := range 3 {
					spoilt := entry[:place] + string([]byte{byte(c)}) + entry[place+1:]
					head := "xref 7 3 " + strings.Repeat(one, n)
					b := head + spoilt + strings.Repeat(two, 2-n) + end
					got := read(parse.New([]byte(b), 28))
					holds(t, fmt.Sprintf("%q", b), got, slowRead(b, 0, 28))
					white := n == 0 && place == 0 && strings.IndexByte("\x00\t\n\f\r ", byte(c)) >= 0
					at := len(head)
					if white {
						at++
					}
					if fits(entry, place, byte(c)) != (got.e == api.OK) || got.e != api.OK && got != fault(api.ErrForm, at) {
						t.Errorf("%q: %v", b, got)
					}
				}
			}
		}
	}
}

// fits tells if a byte may stand at a place of an entry, whose others stay.
func fits(entry string, place int, c byte) bool {
	switch place {
	case 10, 16:
		return c == ' '
	case 17:
		return c == 'n' || c == 'f'
	case 18:
		return c == entry[18] || c == '\r' && entry[19] == '\n' || c == ' ' && entry[19] == '\n'
	case 19:
		return c == entry[19] || entry[18] == ' ' && (c == '\n' || c == '\r')
	}
	return c >= '0' && c <= '9'
}

func TestEndsOfLines(t *testing.T) {
	for c := range 1 << 16 {
		line := string([]byte{byte(c >> 8), byte(c)})
		b := "xref 7 2\n0000000016 00000 n" + line + two + end
		want := fault(api.ErrForm, 9)
		switch line {
		case " \n", " \r", "\r\n":
			want = came(cos.Dict(), len(b), placed(7, 16, 0), free(8, 3, 65535))
		}
		holds(t, fmt.Sprintf("%q", b), read(parse.New([]byte(b), 28)), want)
	}
	for _, lines := range [][3]string{{" \n", " \r", "\r\n"}, {"\r\n", " \n", " \r"}, {" \r", "\r\n", " \n"}} {
		b := "xref 7 3\n0000000016 00000 n" + lines[0] + "0000000016 00000 n" + lines[1] + "0000000016 00000 n" + lines[2] + end
		reads(t, b, cos.Dict(), placed(7, 16, 0), placed(8, 16, 0), placed(9, 16, 0))
	}
	// A line of two signs that is one too long is none of the next entry.
	fails(t, "xref 7 2\n0000000016 00000 n \r\n"+two+end, api.ErrForm, 29)
	reads(t, "xref 7 1\n0000000016 00000 n \r\n"+end, cos.Dict(), placed(7, 16, 0))
	fails(t, "xref 7 1\n0000000016 00000 n\n"+end, api.ErrForm, 9)
	fails(t, "xref 7 1\n0000000016 00000 n\n", api.ErrShort, 9)
}

func TestNumbersOfEntries(t *testing.T) {
	for _, at := range []int{0, 1, 9, 10, 123456789, 1234567890, 9999999998, 9999999999, 2147483648, 4294967296} {
		for _, gen := range []int{0, 1, 10, 12345, 65535, 65536, 99999} {
			b := fmt.Sprintf("xref 1 2\n%010d %05d n \n%010d %05d f \n", at, gen, at, gen)
			reads(t, b+end, cos.Dict(), placed(1, at, gen), free(2, at, gen))
		}
	}
}

func TestCutEntries(t *testing.T) {
	for _, first := range []string{one, two, three} {
		for n := range 3 {
			head := "xref 7 3\n" + strings.Repeat(first, n)
			for cut := range 20 {
				fails(t, head+one[:cut], api.ErrShort, len(head))
				// There are too few, whatever they are.
				fails(t, head+("trailer<<>>" + strings.Repeat("x", 20))[:cut], api.ErrShort, len(head))
				fails(t, head+strings.Repeat("\x0b", cut), api.ErrShort, len(head))
			}
			fails(t, head+strings.Repeat("x", 20), api.ErrForm, len(head))
			fails(t, head+"trailer<</A (12)>>  ", api.ErrForm, len(head))
		}
	}
	// Of entries that are wrong or not there the first one counts.
	fails(t, "xref 7 3\n"+one+"0000000016x00000 n \n", api.ErrForm, 29)
	fails(t, "xref 7 8388000\n"+one+"0000000016x00000 n \n", api.ErrForm, 35)
	fails(t, "xref 7 3\n0000000016 00000 x \n"+one[:5], api.ErrForm, 9)
}

func TestParts(t *testing.T) {
	reads(t, "xref trailer<<>>", cos.Dict())
	reads(t, "xref 0 0 0 0 5 0 trailer<<>>", cos.Dict())
	reads(t, "xref 0 2 "+one+two+"9 1 "+three+end, cos.Dict(), placed(0, 16, 0), free(1, 3, 65535), placed(9, 9999999999, 99999))
	for _, blank := range []string{"", " ", "\n", "\r\n", "%c\n", "\x00\t\f%\r"} {
		// With and without what is blank between parts.
		reads(t, "xref 4 1 "+one+blank+"6 1 "+two+blank+end, cos.Dict(), placed(4, 16, 0), free(6, 3, 65535))
		reads(t, "xref 4 1 "+one+blank+"6 0 "+blank+"8 2 "+two+three+blank+end, cos.Dict(), placed(4, 16, 0), free(8, 3, 65535), placed(9, 9999999999, 99999))
	}
	// Numbers that stand twice, that fall, that lie apart.
	for _, nums := range [][3]int{{1, 2, 3}, {1, 1, 1}, {3, 2, 1}, {0, 8388607, 0}, {8388607, 8388607, 8388606}, {5, 100, 6}} {
		reads(t, fmt.Sprint("xref ", nums[0], " 1 ", one, nums[1], " 1 ", two, nums[2], " 1 ", three, end), cos.Dict(), placed(nums[0], 16, 0), free(nums[1], 3, 65535), placed(nums[2], 9999999999, 99999))
	}
	reads(t, "xref 4 3 "+one+one+one+"5 2 "+two+two+end, cos.Dict(), placed(4, 16, 0), placed(5, 16, 0), placed(6, 16, 0), free(5, 3, 65535), free(6, 3, 65535))
	// An entry too many begins as a part does.
	fails(t, "xref 4 1 "+one+one+end, api.ErrForm, 46)
	fails(t, "xref 4 1 "+one+two+end, api.ErrShort, 46)
	fails(t, "xref 4 1 "+one+three+end, api.ErrRange, 29)
}

func TestTrailers(t *testing.T) {
	for b, o := range map[string]api.Obj{
		"<<>>":                             cos.Dict(),
		" <<>>":                            cos.Dict(),
		"\n<</Size 3/Root 1 0 R>>":         cos.Dict(cos.Pair("Root", cos.Ref(1)), cos.Pair("Size", cos.Int(3))),
		"%x\r<</A null/B[<<>>]>>":          cos.Dict(cos.Pair("B", cos.Arr(cos.Dict()))),
		"<</trailer/xref/A(\n)/Length 3>>": cos.Dict(cos.Pair("A", cos.Str([]byte("\n"))), cos.Pair("Length", cos.Int(3)), cos.Pair("trailer", cos.Name("xref"))),
	} {
		reads(t, "xref trailer"+b, o)
		reads(t, "xref 4 1 "+one+"trailer"+b, o, placed(4, 16, 0))
	}
}

func TestTrailersThatAreNoDict(t *testing.T) {
	for _, b := range []string{"null", "true", "false", "0", "-5", "1 0 R", "8388607 0 R", "1 0", "1.5", "()", "(<<>>)", "<3c3c>", "/A", "/", "[]", "[<<>>]", "[1[2<</A 1>>]]"} {
		for _, head := range []string{"xref trailer ", "xref 4 1 " + one + "trailer\n", "xref 4 0 trailer%c\n"} {
			fails(t, head+b, api.ErrForm, len(head), " ", "<<>>", " xref trailer<<>>", ")")
		}
	}
	for _, b := range []string{"trailer", "xref", "startxref", "endobj", "stream", "R", "]", ">>"} {
		for _, head := range []string{"xref trailer ", "xref 4 1 " + one + "trailer\n"} {
			fails(t, head+b, api.ErrForm, len(head), " ", "<<>>")
		}
	}
}

func TestFaultsWithinTrailers(t *testing.T) {
	for _, c := range []struct {
		b  string
		e  api.Errno
		at int
	}{
		{"<<", api.ErrShort, 2},
		{"<</A", api.ErrShort, 4},
		{"<</A 1", api.ErrShort, 6},
		{"<</A 1>", api.ErrForm, 6},
		{"<</A>>", api.ErrForm, 4},
		{"<</A 1/A 2>>", api.ErrForm, 6},
		{"<</A null/A null>>", api.ErrForm, 9},
		{"<<1 2>>", api.ErrForm, 2},
		{"<</A 1]", api.ErrForm, 6},
		{"<</A 2147483648>>", api.ErrRange, 5},
		{"<</A(x>>", api.ErrShort, 4},
		{"<</A#0>>", api.ErrForm, 2},
		{"<</A trailer>>", api.ErrForm, 5},
		{"<</" + strings.Repeat("A", 128) + " 1>>", api.ErrLong, 2},
		{"<</A " + strings.Repeat("[", 28), api.ErrDepth, 32},
		// Of a value that is no Dict, too.
		{"[1", api.ErrShort, 2},
		{"[1>>", api.ErrForm, 2},
		{"[(x", api.ErrShort, 1},
		{strings.Repeat("[", 29), api.ErrDepth, 28},
	} {
		for _, head := range []string{"xref trailer", "xref 4 1 " + one + "trailer\n"} {
			fails(t, head+c.b, c.e, len(head)+c.at)
		}
	}
}

func TestDepth(t *testing.T) {
	// How deep a trailer may be is the parser's.
	for depth := -1; depth < 31; depth++ {
		for deep := range 31 {
			b := "xref 0 1 " + one + "trailer"
			head := len(b)
			b += "<</A" + strings.Repeat("[", deep) + " 1" + strings.Repeat("]", deep) + ">>"
			got := read(parse.New(spared(b), depth))
			holds(t, fmt.Sprintf("%q, depth %d", b, depth), got, slowRead(b, 0, depth))
			most := min(max(depth, 0), 28)
			switch {
			case deep < most:
				holds(t, b, got.e, api.OK)
			case most == 0:
				holds(t, b, got, fault(api.ErrDepth, head))
			default:
				holds(t, b, got, fault(api.ErrDepth, head+4+most-1))
			}
		}
	}
}

func TestElsewhere(t *testing.T) {
	a, b := "xref 0 1 "+one+"trailer<</A 1>>", "xref 3 1 "+two+"trailer<</B 2>>"
	all := "%PDF-1.4\n1 0 obj 5 endobj\n" + a + "\n" + b + "\nstartxref\n25\n%%EOF\n"
	at := strings.Index(all, a)
	p := parse.New(spared(all), 28)
	p.Seek(at)
	first, second := came(cos.Dict(cos.Pair("A", cos.Int(1))), at+len(a), placed(0, 16, 0)), came(cos.Dict(cos.Pair("B", cos.Int(2))), at+len(a+"\n"+b), free(3, 3, 65535))
	holds(t, "a section", read(p), first)
	holds(t, "the one behind it", read(p), second)
	holds(t, "what is behind", read(p), fault(api.ErrForm, strings.Index(all, "startxref")))
	p.Seek(at)
	holds(t, "the first, once more", read(p), first)
	p.Seek(at - 1)
	holds(t, "ahead of it", read(p), first)
	p.Seek(at + 1)
	holds(t, "within its word", read(p), fault(api.ErrForm, at+1))
	p.Seek(at - 2)
	p.Keyword("b")
	holds(t, "a word ahead of it", read(p), fault(api.ErrForm, at-2))
	p.Seek(0)
	if _, e := p.Item(); e != api.OK {
		t.Fatal(e)
	}
	holds(t, "behind an item", read(p), first)
	everywhere(t, all, 28)
	everywhere(t, all, 0)
}

func TestGreatCount(t *testing.T) {
	// What few bytes say takes little room.
	for _, b := range []string{"xref 0 8388608\n" + one, "xref 0 8388608\n", "xref 1 8388607 " + one + one + end, strings.Repeat("xref 0 8388608 ", 2)} {
		var was, is runtime.MemStats
		runtime.ReadMemStats(&was)
		got := read(parse.New([]byte(b), 28))
		runtime.ReadMemStats(&is)
		holds(t, b, got, slowRead(b, 0, 28))
		if took := is.TotalAlloc - was.TotalAlloc; took > 1<<16 {
			t.Errorf("%q: %d bytes taken", b, took)
		}
	}
	// And many parts come in time.
	const many = 200000
	p := parse.New([]byte("xref "+strings.Repeat("8388607 0 ", many)+strings.Repeat("7 1 "+one, many)+end), 28)
	s, e := table.Read(p)
	if e != api.OK || len(s.Rows) != many || p.Left() != 0 || s.Rows[many-1] != placed(7, 16, 0) {
		t.Errorf("many parts: %v, %d rows", e, len(s.Rows))
	}
}

func TestManyRows(t *testing.T) {
	const many = 1 << 19
	b := fmt.Sprint("xref 3 ", many, "\n", strings.Repeat(one+two, many/2), end)
	p := parse.New([]byte(b), 28)
	s, e := table.Read(p)
	if e != api.OK || len(s.Rows) != many || p.At() != len(b) {
		t.Fatalf("%v, %d rows, at %d", e, len(s.Rows), p.At())
	}
	for i, r := range s.Rows {
		want := placed(3+i, 16, 0)
		if i%2 == 1 {
			want = free(3+i, 3, 65535)
		}
		if r != want {
			t.Fatalf("row %d: %v", i, r)
		}
	}
}

func TestNothingToReadFrom(t *testing.T) {
	for what, p := range map[string]*parse.Parser{"none": nil, "without a lexer": {}} {
		s, e := table.Read(p)
		holds(t, what, told(s), told(table.Section{}))
		holds(t, what, e, api.ErrArg)
	}
	holds(t, "without a cursor", read(&parse.Parser{Lexer: &lex.Lexer{}}), fault(api.ErrShort, 0))
}

func TestEachByte(t *testing.T) {
	// Each byte another one, left out, put in.
	b := "xref\n0 1\n" + one + "3 2\r\n" + two + three + "trailer\n<</A 1>>\n"
	for place := range len(b) {
		for c := range 256 {
			s := string([]byte{byte(c)})
			for _, all := range []string{b[:place] + s + b[place+1:], b[:place] + s + b[place:]} {
				holds(t, fmt.Sprintf("%q", all), read(parse.New(spared(all), 28)), slowRead(all, 0, 28))
			}
		}
		for width := range len(b) - place {
			all := b[:place] + b[place+width:]
			holds(t, fmt.Sprintf("%q", all), read(parse.New(spared(all), 28)), slowRead(all, 0, 28))
		}
		everywhere(t, b[:place], 28)
	}
	everywhere(t, b, 28)
}

func TestFewTokens(t *testing.T) {
	among := []string{"xref", "trailer", "0", "1", "8388607", "8388608", "-1", "1.5", "<<>>", "<<", "[", ")", one, "%x\n", " "}
	l := []string{""}
	for range 5 {
		var longer []string
		for _, b := range l {
			for _, part := range among {
				if strings.HasPrefix("xref", b) || strings.HasPrefix(b, "xref") {
					longer = append(longer, strings.TrimPrefix(b+" "+part, " "))
				}
			}
		}
		l = longer
		for _, b := range l {
			for _, all := range []string{b, strings.ReplaceAll(b, "\n ", "\n")} {
				holds(t, fmt.Sprintf("%q", all), read(parse.New(spared(all), 28)), slowRead(all, 0, 28))
			}
		}
	}
}

func TestByChance(t *testing.T) {
	c := newChance(151)
	among := []string{"xref ", "xref\n", "trailer ", "trailer", "<<>>", "<</A 1>>", "0 ", "1 ", "2 ", "8388607 ", "8388608 ", "0 1\n", "5 2 ", " ", "\n", "%x\n", one, two, three, one, "0000000016 00000 x \n", "[", ")"}
	for range 20000 {
		var b strings.Builder
		b.WriteString("xref ")
		for range c.Intn(12) {
			b.WriteString(of(c, among...))
		}
		holds(t, fmt.Sprintf("%q", b.String()), read(parse.New(spared(b.String()), 28)), slowRead(b.String(), 0, 28))
	}
	for range 300 {
		_, trailer := c.trailer()
		b := []byte(slowWrite(trailer, c.rows(5)...))
		everywhere(t, string(b), c.Intn(4))
		for range 1 + c.Intn(3) {
			b[c.Intn(len(b))] = of(c, ' ', '\n', '0', '1', byte(c.Intn(256)))
		}
		everywhere(t, string(b), 28)
	}
}

func FuzzRead(f *testing.F) {
	f.Add([]byte("xref\n0 1\n"+one+"3 2\r\n"+two+three+"trailer\n<</A 1>>\n"), 28)
	f.Add([]byte("xref 4 0%c\ntrailer 1 0 R"), 0)
	f.Fuzz(func(t *testing.T, b []byte, depth int) {
		if len(b) > 300 {
			b = b[:300]
		}
		everywhere(t, string(b), depth)
	})
}
