package xstream_test

import (
	"fmt"
	"slices"
	"strings"
	"testing"

	"pressmark/api"
	"pressmark/table"
	"pressmark/xstream"
)

// P16.1: Rows.

// enough is a bound that is none.
const enough = 1 << 40

// xrefs is a stream of rows of 1, 2 and 1 bytes, from 0 on.
func xrefs(data string) api.Obj {
	return stream(data, entry("Size", whole(max(1, len(data)/4))), entry("Type", name("XRef")), entry("W", ints(1, 2, 1)))
}

// wide is one of rows of other widths.
func wide(data string, w ...int) api.Obj {
	sum := 0
	for _, n := range w {
		sum += n
	}
	o := with(xrefs(data), "W", ints(w...))
	return with(o, "Size", whole(max(1, len(data)/max(1, sum))))
}

// indexed is one with parts.
func indexed(data string, index ...int) api.Obj { return with(xrefs(data), "Index", ints(index...)) }

// two are rows of which each kind of fault can be made.
const two = "\x01\x02\x03\x04\x02\x00\x05\x06"

func cameTwo(from int) answer {
	return cameRows(8, placed(from, 0x203, 4), packed(from+1, 5, 6))
}

// rowForm asks that a stream is of no form, whatever its data are.
func rowForm(t *testing.T, what string, o api.Obj) {
	t.Helper()
	if got := slowRows(o, enough); got != fault(api.ErrForm) {
		t.Errorf("%s: the slow one %v", what, got)
	}
	rows(t, what, o, enough, fault(api.ErrForm))
	// Ahead of what the filters and the bytes say.
	o.B = append(slices.Clone(o.B), 9)
	rows(t, what+", a byte more", o, enough, fault(api.ErrForm))
	for _, filter := range []api.Obj{name("DCTDecode"), name("FlateDecode"), name("ASCIIHexDecode")} {
		rows(t, what+", and a filter", with(o, "Filter", filter), enough, fault(api.ErrForm))
	}
}

// rowWell asks that a stream of two rows is taken.
func rowWell(t *testing.T, what string, o api.Obj, from int) {
	t.Helper()
	rows(t, what, o, enough, cameTwo(from))
	if got := slowRows(o, enough); got != cameTwo(from) {
		t.Errorf("%s: the slow one %v", what, got)
	}
}

func TestRows(t *testing.T) {
	rowWell(t, "as it is", xrefs(two), 0)
	rows(t, "one", xrefs("\x00\x00\x01\xff"), 0, cameRows(4, free(0, 1, 255)))
	rows(t, "four", with(xrefs("\x00\x00\x00\xff\x01\x00\x11\x00\x02\x00\x01\x00\x02\x00\x01\x01"), "Index", ints(0, 1, 4, 3)), 0, cameRows(16, free(0, 0, 255), placed(4, 17, 0), packed(5, 1, 0), packed(6, 1, 1)))
}

func TestRowsOfOtherKinds(t *testing.T) {
	for _, o := range others(api.Stream) {
		rowForm(t, "another kind", o)
		o.B, o.D, o.L = []byte(two), xrefs(two).D, nil
		rowForm(t, "another kind with all entries", o)
	}
	rowForm(t, "nothing said", stream(two))
	rowForm(t, "nothing said, no data", stream(""))
}

func TestRowsType(t *testing.T) {
	rowForm(t, "no Type", with(xrefs(two), "Type", api.Obj{}))
	for _, o := range others(api.Name) {
		rowForm(t, "a Type that is no Name", with(xrefs(two), "Type", o))
		rowForm(t, "a Type that is no Name", stream(two, append([]api.Entry{entry("Type", o)}, xrefs(two).D...)...))
	}
	for _, s := range []string{"", "X", "XRe", "XRefs", "xref", "XREF", "Xref", "/XRef", "XRef\x00", " XRef", "ObjStm", "Catalog"} {
		rowForm(t, "another Type", with(xrefs(two), "Type", name(s)))
	}
	for _, key := range []string{"type", "Typ", "Types", "", "Subtype", "S"} {
		rowForm(t, "another key", with(with(xrefs(two), "Type", api.Obj{}), key, name("XRef")))
	}
}

func TestRowsWidths(t *testing.T) {
	rowForm(t, "no W", with(xrefs(two), "W", api.Obj{}))
	for _, o := range others(api.Arr) {
		o.L = ints(1, 2, 1).L
		rowForm(t, "a W that is no Arr", with(xrefs(two), "W", o))
	}
	for _, w := range [][]int{{}, {4}, {1, 3}, {1, 2, 1, 0}, {1, 2, 1, 1}, {1, 1, 1, 1}, {0, 1, 2, 1}, {0, 0, 0}, {0, 0}, {0}, {0, 0, 0, 0}, {0, 0, 0, 4}, {1, 2, 1, 1, 2, 1}} {
		rowForm(t, "a W of other Ints", with(xrefs(two), "W", ints(w...)))
	}
	for i := range 3 {
		for _, n := range []int{-1 << 63, -1 << 32, -4, -2, -1, 5, 6, 7, 8, 255, 256, 257, 1 << 32, 1<<32 + 1, 1<<63 - 1} {
			w := []int{1, 2, 1}
			w[i] = n
			rowForm(t, "a width", with(xrefs(two), "W", ints(w...)))
			w = []int{0, 0, 0}
			w[i] = n
			rowForm(t, "a width alone", with(xrefs(two), "W", ints(w...)))
		}
		for _, o := range others(api.Int) {
			o.N = 1
			w := ints(1, 2, 1)
			w.L[i] = o
			rowForm(t, "a width that is no Int", with(xrefs(two), "W", w))
		}
	}
	// Widths whose sum is 0, though they are not.
	for _, w := range [][]int{{-1, 0, 1}, {4, -4, 0}, {-3, 2, 1}} {
		rowForm(t, "a sum of 0", with(xrefs(two), "W", ints(w...)))
	}
}

func TestRowsSize(t *testing.T) {
	for _, o := range []api.Obj{xrefs(two), indexed(two, 3, 2), indexed("")} {
		rowForm(t, "no Size", with(o, "Size", api.Obj{}))
		for _, size := range others(api.Int) {
			size.N = 2
			rowForm(t, "a Size that is no Int", with(o, "Size", size))
		}
		for _, n := range []int{-1 << 63, -1 << 32, -2, -1, 0, 8388609, 8388610, 1 << 24, 1 << 31, 1 << 32, 1<<32 + 2, 1<<63 - 1} {
			rowForm(t, "a Size", with(o, "Size", whole(n)))
		}
	}
	for _, n := range []int{1, 2, 3, 8388606, 8388607, 8388608} {
		// With Index it does not count how many it tells.
		rowWell(t, "another Size", with(indexed(two, 5, 2), "Size", whole(n)), 5)
		rowWell(t, "another Size", with(indexed(two, 8388606, 2), "Size", whole(n)), 8388606)
		o := with(xrefs(two), "Size", whole(n))
		switch n {
		case 1:
			rows(t, "fewer rows", o, enough, fault(api.ErrLong))
		case 2:
			rowWell(t, "as many rows", o, 0)
		default:
			rows(t, "more rows", o, enough, fault(api.ErrShort))
		}
	}
}

func TestRowsGreatestSize(t *testing.T) {
	const many = 8388608
	o := with(wide(strings.Repeat("\x01", many-1)+"\x02", 1, 0, 0), "Size", whole(many))
	r, n, e := xstream.Rows(o, 0)
	if e != api.OK || n != many || len(r) != many {
		t.Fatalf("%d rows of %d bytes, %v", len(r), n, e)
	}
	for i, row := range r {
		want := placed(i, 0, 0)
		if i == many-1 {
			want.Kind = table.Packed
		}
		if row != want {
			t.Fatalf("row %d is %v", i, row)
		}
	}
	o.B = o.B[1:]
	if r, n, e := xstream.Rows(o, 0); e != api.ErrShort || r != nil || n != 0 {
		t.Errorf("one too few: %d rows of %d bytes, %v", len(r), n, e)
	}
	o.B = append(o.B, 1, 1)
	if r, n, e := xstream.Rows(o, 0); e != api.ErrLong || r != nil || n != 0 {
		t.Errorf("one too many: %d rows of %d bytes, %v", len(r), n, e)
	}
	o.B = append(o.B[:many-1], 3)
	if r, n, e := xstream.Rows(o, 0); e != api.ErrForm || r != nil || n != 0 {
		t.Errorf("the last one of no kind: %d rows of %d bytes, %v", len(r), n, e)
	}
}

func TestRowsIndex(t *testing.T) {
	for _, o := range others(api.Arr) {
		o.L = ints(3, 2).L
		if slices.Contains(noughts(), o.Kind) {
			// As if it was not there.
			rowWell(t, "an Index as Null", stream(two, append(xrefs(two).D, entry("Index", o))...), 0)
			continue
		}
		rowForm(t, "an Index that is no Arr", with(xrefs(two), "Index", o))
	}
	for _, index := range [][]int{{0}, {2}, {3, 2, 1}, {0, 1, 4, 1, 7}, {0, 0, 0}} {
		rowForm(t, "an Index of an odd number", indexed(two, index...))
	}
	for i := range 4 {
		for _, o := range others(api.Int) {
			o.N = 1
			index := ints(3, 1, 9, 1)
			index.L[i] = o
			rowForm(t, "no Int in the Index", with(xrefs(two), "Index", index))
		}
	}
	for _, n := range []int{-1 << 63, -1<<63 + 1, -1 << 32, -2, -1, 8388608, 8388609, 1 << 31, 1 << 32, 1<<32 + 3, 1<<63 - 2, 1<<63 - 1} {
		for _, many := range []int{0, 1, 2} {
			rowForm(t, "a first number", indexed(two, n, many))
			rowForm(t, "a first number behind", indexed(two, 0, 2, n, many))
			rowForm(t, "a first number ahead", indexed(two, n, many, 0, 2))
		}
	}
	for _, n := range []int{-1 << 63, -1 << 32, -2, -1, 8388608, 8388609, 1 << 31, 1 << 32, 1<<32 + 2, 1<<63 - 9, 1<<63 - 8, 1<<63 - 2, 1<<63 - 1} {
		for _, first := range []int{1, 2, 8, 9, 8388607} {
			rowForm(t, "how many", indexed(two, first, n))
			rowForm(t, "how many behind", indexed(two, 0, 2, first, n))
			rowForm(t, "how many ahead", indexed(two, first, n, 0, 2))
		}
	}
	rowForm(t, "one more than there are", indexed(two, 0, 8388609))
	for _, first := range []int{0, 1, 8388605, 8388606} {
		rowWell(t, "a first number", indexed(two, first, 2), first)
	}
	rowForm(t, "the last number too great", indexed(two, 8388607, 2))
	rowForm(t, "the last number too great", indexed(two, 8388606, 3))
	rowForm(t, "the last number too great", indexed(two, 8388607, 1, 8388607, 2))
	rows(t, "the last number", indexed(two[:4], 8388607, 1), enough, cameRows(4, placed(8388607, 0x203, 4)))
	// None of them, wherever that is.
	for _, first := range []int{0, 1, 8388606, 8388607} {
		rows(t, "no rows", indexed("", first, 0), enough, cameRows(0))
		rowWell(t, "none ahead", indexed(two, first, 0, 5, 2), 5)
		rowWell(t, "none behind", indexed(two, 5, 2, first, 0), 5)
	}
	rows(t, "empty", indexed(""), enough, cameRows(0))
	rows(t, "empty, with data", indexed(two), enough, fault(api.ErrLong))
	rows(t, "as many as there are", indexed(two, 0, 8388608), enough, fault(api.ErrShort))
	rows(t, "as many but one", indexed(two, 1, 8388607), enough, fault(api.ErrShort))
}

func TestRowsParts(t *testing.T) {
	data := "\x00\x00\x01\x02\x01\x00\x03\x04\x02\x00\x05\x06\x01\x00\x07\x08"
	at := func(nums ...int) answer {
		return cameRows(16, free(nums[0], 1, 2), placed(nums[1], 3, 4), packed(nums[2], 5, 6), placed(nums[3], 7, 8))
	}
	for _, c := range []struct{ index, nums []int }{
		{[]int{0, 4}, []int{0, 1, 2, 3}},
		{[]int{0, 1, 1, 3}, []int{0, 1, 2, 3}},
		{[]int{0, 2, 10, 2}, []int{0, 1, 10, 11}},
		{[]int{10, 2, 0, 2}, []int{10, 11, 0, 1}},
		{[]int{5, 2, 5, 2}, []int{5, 6, 5, 6}},
		{[]int{5, 2, 6, 2}, []int{5, 6, 6, 7}},
		{[]int{7, 1, 6, 1, 5, 1, 4, 1}, []int{7, 6, 5, 4}},
		{[]int{7, 1, 7, 1, 7, 1, 7, 1}, []int{7, 7, 7, 7}},
		{[]int{8388607, 1, 0, 2, 8388607, 1}, []int{8388607, 0, 1, 8388607}},
		{[]int{3, 1, 9, 0, 4, 3, 1, 0}, []int{3, 4, 5, 6}},
	} {
		o := indexed(data, c.index...)
		rows(t, fmt.Sprint(c.index), o, enough, at(c.nums...))
		rows(t, fmt.Sprint(c.index), with(o, "Size", whole(1)), enough, at(c.nums...))
		o.B = o.B[:15]
		rows(t, "a byte fewer", o, enough, fault(api.ErrShort))
		o.B = []byte(data + "\x00")
		rows(t, "a byte more", o, enough, fault(api.ErrLong))
	}
}

func TestManyParts(t *testing.T) {
	const many = 100000
	index, b, want := arr(), make([]byte, 0, 4*many), make([]table.Row, 0, many)
	for i := range many {
		n := i * 7919 % 8388608
		index.L = append(index.L, whole(n), whole(1))
		b = append(b, byte(i%3), byte(i>>8), byte(i), byte(i%7))
		want = append(want, table.Row{Num: n, Kind: i % 3, At: i & 0xffff, Gen: i % 7})
	}
	o := with(with(xrefs(string(b)), "Size", whole(1)), "Index", index)
	r, n, e := xstream.Rows(o, 0)
	if e != api.OK || n != len(b) || !slices.Equal(r, want) {
		t.Errorf("%d rows of %d bytes, %v", len(r), n, e)
	}
	// More rows than can be counted in 32 bits.
	index = arr()
	for range 600 {
		index.L = append(index.L, whole(0), whole(8388608))
	}
	rows(t, "too many", with(with(wide("\x01", 4, 4, 4), "Index", index), "Size", whole(1)), 0, fault(api.ErrShort))
	rows(t, "2^32 and one", with(with(wide("\x01", 1, 0, 0), "Index", arr(append(index.L[:1024], whole(0), whole(1))...)), "Size", whole(1)), 0, fault(api.ErrShort))
}

func TestRowsBytes(t *testing.T) {
	for n := range 40 {
		data := strings.Repeat("\x01", n)
		for size := 1; size < 10; size++ {
			want := fault(api.ErrShort)
			if n > 4*size {
				want = fault(api.ErrLong)
			} else if n == 4*size {
				want = slowRows(with(xrefs(data), "Size", whole(size)), 0)
				if want.e != api.OK {
					t.Errorf("%d bytes: the slow one %v", n, want)
				}
			}
			rows(t, fmt.Sprint(n, " bytes"), with(xrefs(data), "Size", whole(size)), 0, want)
			rows(t, fmt.Sprint(n, " bytes, with Index"), with(indexed(data, 3, size), "Size", whole(1)), 0, slowRows(indexed(data, 3, size), 0))
			// Bytes that are not just as many are not asked what they say.
			if n != 4*size {
				rows(t, fmt.Sprint(n, " bytes, of no kind"), with(xrefs(strings.Repeat("\x09", n)), "Size", whole(size)), 0, want)
			}
		}
	}
}

func TestEachWidth(t *testing.T) {
	c := newChance(161)
	for a := range 5 {
		for b := range 5 {
			for d := range 5 {
				sum := a + b + d
				if sum == 0 {
					continue
				}
				for many := 1; many < 5; many++ {
					var data strings.Builder
					var want []table.Row
					for i := range many {
						row := table.Row{Num: i, Kind: 1}
						if a > 0 {
							row.Kind = c.Intn(3)
							data.WriteString(strings.Repeat("\x00", a-1) + string(rune(row.Kind)))
						}
						for _, part := range []struct {
							width int
							to    *int
						}{{b, &row.At}, {d, &row.Gen}} {
							for i := range part.width {
								x := 1 + c.Intn(255)
								*part.to += x << (8 * (part.width - 1 - i))
								data.WriteByte(byte(x))
							}
						}
						want = append(want, row)
					}
					what := fmt.Sprint("widths ", a, b, d)
					o := wide(data.String(), a, b, d)
					rows(t, what, o, 0, cameRows(sum*many, want...))
					rows(t, what+", a row less", with(o, "Size", whole(many+1)), 0, fault(api.ErrShort))
					o.B = o.B[1:]
					rows(t, what+", a byte less", o, 0, fault(api.ErrShort))
					o.B = []byte(data.String() + "\x00")
					rows(t, what+", a byte more", o, 0, fault(api.ErrLong))
				}
			}
		}
	}
	rows(t, "the greatest", wide("\x00\x00\x00\x02\xff\xff\xff\xff\xff\xff\xff\xff", 4, 4, 4), 0, cameRows(12, packed(0, 1<<32-1, 1<<32-1)))
	rows(t, "the highest first", wide("\x01\x01\x02\x03\x04\x05\x06\x07\x08", 1, 4, 4), 0, cameRows(9, placed(0, 0x01020304, 0x05060708)))
}

func TestRowKinds(t *testing.T) {
	for width := 1; width < 5; width++ {
		for at := range width {
			for n := range 256 {
				kind := make([]byte, width)
				kind[at] = byte(n)
				want := fault(api.ErrForm)
				if n == 0 || at == width-1 && n < 3 {
					want = cameRows(width+2, table.Row{Num: 0, Kind: n, At: 7, Gen: 8})
				}
				rows(t, fmt.Sprint("kind ", kind), wide(string(kind)+"\x07\x08", width, 1, 1), 0, want)
			}
		}
	}
	// Where it stands among others.
	for i := range 5 {
		for n := range 6 {
			b := []byte("\x00\x01\x02\x01\x00")
			b[i] = byte(n)
			o := wide(string(b), 1, 0, 0)
			want := fault(api.ErrForm)
			if n < 3 {
				want = slowRows(o, 0)
				if want.e != api.OK {
					t.Error("the slow one")
				}
			}
			rows(t, fmt.Sprint("kinds ", b), o, 0, want)
		}
	}
	// Whatever else the row says, of a width of 0 too.
	rows(t, "Free", wide("\x00", 1, 0, 0), 0, cameRows(1, free(0, 0, 0)))
	rows(t, "Placed", wide("\x01", 1, 0, 0), 0, cameRows(1, placed(0, 0, 0)))
	rows(t, "Packed", wide("\x02", 1, 0, 0), 0, cameRows(1, packed(0, 0, 0)))
	rows(t, "no width of the first", wide("\x09\x08", 0, 1, 1), 0, cameRows(2, placed(0, 9, 8)))
	rows(t, "the second alone", wide("\x09\x00", 0, 1, 0), 0, cameRows(2, placed(0, 9, 0), placed(1, 0, 0)))
	rows(t, "the third alone", wide("\x09\x00", 0, 0, 1), 0, cameRows(2, placed(0, 0, 9), placed(1, 0, 0)))
	rows(t, "none of the second", wide("\x02\x05", 1, 0, 1), 0, cameRows(2, packed(0, 0, 5)))
	rows(t, "none of the third", wide("\x02\x05", 1, 1, 0), 0, cameRows(2, packed(0, 5, 0)))
}

func TestRowsFilters(t *testing.T) {
	for _, l := range links() {
		o := filtered(xrefs(two), l...)
		rowWell(t, fmt.Sprint(l), o, 0)
		rows(t, fmt.Sprint(l, ", a byte fewer"), filtered(xrefs(two[1:]), l...), enough, slowRows(xrefs(two[1:]), 0))
		rows(t, fmt.Sprint(l, ", no bytes"), filtered(xrefs(""), l...), enough, fault(api.ErrShort))
	}
	rows(t, "no filter, whatever the bound", xrefs(two), -1<<63, cameTwo(0))
	rows(t, "no filter, whatever the bound", xrefs(two), 0, cameTwo(0))
	for _, s := range five() {
		o := filtered(xrefs(two), link(s))
		for _, most := range []int{8, 9, 1000, enough, 1<<63 - 1} {
			rows(t, s, o, most, cameTwo(0))
		}
		for _, most := range []int{7, 6, 1, 0, -1, -8, -1 << 63} {
			rows(t, s+", too much", o, most, fault(api.ErrLimit))
		}
	}
	// Each of the errors of filters, ahead of what the bytes tell, that would be too few, too many or of no kind.
	for _, data := range []string{"", "41>", "\x78\x01\x03\x00\x00\x00\x00\x02", "\x78\x01\x03\x00\x00", "\x78\x02", "31", "zz~>", "\x80"} {
		for _, filter := range []api.Obj{name("FlateDecode"), name("LZWDecode"), name("ASCIIHexDecode"), name("ASCII85Decode"), name("RunLengthDecode"), name("DCTDecode"), name(""), whole(1), text(api.Str, "FlateDecode"), dict(), arr(), arr(name("FlateDecode"), name("JPXDecode")), arr(name("ASCIIHexDecode"), name("FlateDecode")), arr(whole(7)), arr(slices.Repeat([]api.Obj{name("ASCIIHexDecode")}, 9)...)} {
			for _, parms := range []api.Obj{{}, dict(), whole(1), arr(dict()), dict(entry("Predictor", whole(3))), dict(entry("Columns", whole(3)), entry("Predictor", whole(12)))} {
				o := with(with(xrefs(data), "Filter", filter), "DecodeParms", parms)
				for _, most := range []int{0, 1, 2, enough} {
					rows(t, "filters", o, most, slowRows(o, most))
				}
			}
		}
	}
	sum := filtered(xrefs(two), link("FlateDecode"))
	sum.B[len(sum.B)-1]++
	rows(t, "the sum", sum, enough, fault(api.ErrSum))
	rows(t, "a filter that there is not", with(xrefs(two), "Filter", name("DCTDecode")), enough, fault(api.ErrFilter))
	rows(t, "the filters' form", with(xrefs(two), "Filter", whole(1)), enough, fault(api.ErrForm))
	rows(t, "the filter's end", with(xrefs("4"), "Filter", name("ASCIIHexDecode")), enough, fault(api.ErrShort))
	rows(t, "the predictor's form", filtered(with(xrefs("\x09\x09\x09"), "DecodeParms", dict(entry("Columns", whole(2)), entry("Predictor", whole(12)))), link("FlateDecode")), enough, fault(api.ErrForm))
}

func TestFirstOfAKeyOfRows(t *testing.T) {
	// A key that stands twice counts by its first one.
	for _, e := range []api.Entry{entry("Type", name("ObjStm")), entry("W", ints(1, 1, 1)), entry("Size", whole(9)), entry("Size", whole(0)), entry("Filter", name("DCTDecode"))} {
		o := indexed(two, 4, 2)
		if e.Key == "Filter" {
			o = filtered(o, link("LZWDecode"))
		}
		rowWell(t, "twice", stream(string(o.B), append(o.D, e)...), 4)
	}
	rowWell(t, "twice", stream(two, append(indexed(two, 4, 2).D, entry("Index", ints(1)))...), 4)
	rowForm(t, "twice", stream(two, append([]api.Entry{entry("Size", whole(0))}, xrefs(two).D...)...))
	rowForm(t, "twice", stream(two, append([]api.Entry{entry("W", ints(0, 0, 0))}, xrefs(two).D...)...))
	// Entries that do not rise, fields that are not used, and other entries.
	o := indexed(two, 4, 2)
	slices.Reverse(o.D)
	o.D = append(o.D, entry("Prev", whole(-1)), entry("Root", num(api.Ref, 0)), entry("XRefStm", nested(40)))
	o.N, o.L = 7, ints(1, 2).L
	rowWell(t, "more than it needs", o, 4)
	w := ints(1, 2, 1)
	w.N, w.B, w.D, w.L[0].B, w.L[1].L = 9, []byte("x"), dict(entry("A", whole(1))).D, []byte("y"), ints(4).L
	rowWell(t, "fields that are not used", with(o, "W", w), 4)
}

func TestRowsByChance(t *testing.T) {
	c := newChance(162)
	met := map[api.Errno]int{}
	for range 12000 {
		w := []int{c.Intn(3), c.Intn(5), c.Intn(5)}
		many := c.Intn(5)
		b := make([]byte, many*(w[0]+w[1]+w[2]))
		for i := range b {
			b[i] = of(c, byte(0), 1, 2, 0, 1, 2, 3, byte(c.Intn(256)))
		}
		o := wide(string(b), w...)
		if c.Intn(2) == 0 {
			first := c.Intn(9)
			o = with(o, "Index", ints(first, many/2, c.Intn(20), many-many/2))
		}
		if w[0]+w[1]+w[2] > 0 || c.Intn(9) == 0 {
			o = filtered(o, c.links(2)...)
		}
		for range c.Intn(3) {
			o = c.spoilt(o)
		}
		most := of(c, 0, -1, 20, 200, enough)
		want := slowRows(o, most)
		met[want.e]++
		rows(t, "by chance", o, most, want)
	}
	for _, e := range []api.Errno{api.OK, api.ErrShort, api.ErrLong, api.ErrForm, api.ErrLimit, api.ErrSum} {
		if met[e] < 20 {
			t.Errorf("%v by chance %d times", e, met[e])
		}
	}
}
