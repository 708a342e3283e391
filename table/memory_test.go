package table_test

import (
	"fmt"
	"reflect"
	"slices"
	"strings"
	"testing"
	"unsafe"

	"pressmark/api"
	"pressmark/cos"
	"pressmark/parse"
	"pressmark/table"
)

// R4: what is handed in stays as it is, and what is answered is new memory.

// span is where a list stands in memory.
type span struct{ from, to uintptr }

func spanOf[T any](l []T) span {
	var one T
	from := uintptr(unsafe.Pointer(unsafe.SliceData(l)))
	return span{from, from + uintptr(cap(l))*unsafe.Sizeof(one)}
}

// spans are where the lists of o stand, with their room.
func spans(o api.Obj) []span {
	l := []span{spanOf(o.B), spanOf(o.L), spanOf(o.D)}
	for _, part := range o.L[:cap(o.L)] {
		l = append(l, spans(part)...)
	}
	for _, e := range o.D[:cap(o.D)] {
		l = append(l, spans(e.Val)...)
	}
	return l
}

// apart tells if two of the lists, but those without any room, share memory.
func apart(t *testing.T, what string, lists ...[]span) {
	t.Helper()
	l := slices.DeleteFunc(slices.Concat(lists...), func(s span) bool { return s.from == s.to })
	slices.SortFunc(l, func(a, b span) int {
		if a.from < b.from {
			return -1
		}
		return 1
	})
	for i := 1; i < len(l); i++ {
		if l[i-1].to > l[i].from {
			t.Errorf("%s: two lists share memory", short(what))
			return
		}
	}
}

// roomy is o in new memory, with room behind each list of what nothing may touch.
func roomy(o api.Obj) api.Obj {
	o.B = append(slices.Clone(o.B), "room"...)[:len(o.B)]
	l := make([]api.Obj, 0, len(o.L)+2)
	for _, part := range o.L {
		l = append(l, roomy(part))
	}
	o.L = append(l, cos.Str([]byte("room")), cos.Int(1))[:len(l)]
	d := make([]api.Entry, 0, len(o.D)+2)
	for _, e := range o.D {
		d = append(d, cos.Pair(e.Key, roomy(e.Val)))
	}
	o.D = append(d, cos.Pair("room", cos.Str([]byte("room"))), cos.Pair("s", cos.Int(1)))[:len(d)]
	return o
}

// all is o in new memory, with the room behind its lists as part of them.
func all(o api.Obj) api.Obj {
	o.B, o.L, o.D = slices.Clone(o.B[:cap(o.B)]), slices.Clone(o.L[:cap(o.L)]), slices.Clone(o.D[:cap(o.D)])
	for i := range o.L {
		o.L[i] = all(o.L[i])
	}
	for i := range o.D {
		o.D[i].Val = all(o.D[i].Val)
	}
	return o
}

// spoil changes all of o, room too.
func spoil(o api.Obj) {
	for i := range o.B[:cap(o.B)] {
		o.B[:cap(o.B)][i] ^= 0xFF
	}
	for i, part := range o.L[:cap(o.L)] {
		spoil(part)
		o.L[:cap(o.L)][i] = cos.Int(99)
	}
	for i, e := range o.D[:cap(o.D)] {
		spoil(e.Val)
		o.D[:cap(o.D)][i] = cos.Pair("spoilt", cos.Int(99))
	}
}

func TestReadMemory(t *testing.T) {
	c := newChance(156)
	for range 3000 {
		trailer, printed := c.trailer()
		rows := c.rows(8)
		b := slowWrite(printed, rows...)
		given := spared(b)
		was := slices.Clone(given[:cap(given)])
		s, e := table.Read(parse.New(given, 28))
		other, _ := table.Read(parse.New(given, 28))
		want := table.Section{Rows: rows, Trailer: trailer}
		if e != api.OK || told(s) != told(want) {
			t.Errorf("%q: %v, %s", b, e, told(s))
		}
		apart(t, b, []span{spanOf(given), spanOf(s.Rows), spanOf(other.Rows)}, spans(s.Trailer), spans(other.Trailer))
		clear(s.Rows[:cap(s.Rows)])
		spoil(s.Trailer)
		if !slices.Equal(given[:cap(given)], was) || told(other) != told(want) {
			t.Errorf("%q: what was handed in, or another answer, changed with an answer", b)
		}
		clear(given[:cap(given)])
		if told(other) != told(want) {
			t.Errorf("%q: an answer changed with what was handed in", b)
		}
	}
}

func TestWriteMemory(t *testing.T) {
	c := newChance(157)
	for range 3000 {
		trailer, printed := c.trailer()
		given := roomy(trailer)
		was := all(given)
		rows := append(c.rows(8), placed(1, 2, 3), free(4, 5, 6))
		rows = rows[:len(rows)-2]
		if c.Intn(4) == 0 && len(rows) > 0 {
			rows[c.Intn(len(rows))].Gen = 65536
		}
		hadRows := slices.Clone(rows[:cap(rows)])
		left := func() {
			t.Helper()
			if !reflect.DeepEqual(all(given), was) || !slices.Equal(rows[:cap(rows)], hadRows) {
				t.Errorf("%v: what was handed in is changed", hadRows)
			}
		}
		want := refused()
		if writable(rows) {
			want = written(slowWrite(printed, rows...))
		}
		b, e := table.Write(given, rows...)
		other, _ := table.Write(given, rows...)
		left()
		holds(t, fmt.Sprint(rows), text{string(b), e}, want)
		apart(t, fmt.Sprint(rows), []span{spanOf(b), spanOf(other), spanOf(rows)}, spans(given))
		clear(b[:cap(b)])
		left()
		holds(t, fmt.Sprint("another, ", rows), text{string(other), e}, want)
		holds(t, fmt.Sprint("asked again, ", rows), write(given, rows...), want)
		spoil(given)
		clear(rows[:cap(rows)])
		holds(t, fmt.Sprint("another, ", hadRows), text{string(other), e}, want)
	}
}

// R2: with an error every other answer is its zero value.

func TestNothingWithErrors(t *testing.T) {
	b := "xref 1 2 " + one + two + "7 1 " + three + "trailer <</A[(x)]>>"
	for cut := range len(b) {
		p := parse.New([]byte(b[:cut]), 28)
		if s, e := table.Read(p); e == api.OK || !reflect.DeepEqual(s, table.Section{}) {
			t.Errorf("%q: %v, %v", b[:cut], s, e)
		}
	}
	for place := range len(b) {
		s, e := table.Read(parse.New([]byte(b[:place]+"\x01"+b[place+1:]), 28))
		if e != api.OK && !reflect.DeepEqual(s, table.Section{}) {
			t.Errorf("byte %d: %v, %v", place, s, e)
		}
	}
	if b, e := table.Write(cos.Dict(), placed(1, 5, 0), placed(1, 5, 0)); e != api.ErrArg || b != nil {
		t.Errorf("numbers that do not rise: %q, %v", b, e)
	}
	if b, e := table.Write(cos.None(), placed(1, 5, 0)); e != api.ErrArg || b != nil {
		t.Errorf("no trailer: %q, %v", b, e)
	}
}

// nil and an empty list are one.

func TestNoRows(t *testing.T) {
	s, e := table.Read(parse.New([]byte("xref trailer<<>>"), 28))
	if e != api.OK || len(s.Rows) != 0 {
		t.Errorf("%v, %v", s, e)
	}
	holds(t, "none", write(cos.Dict(), []table.Row{}...), write(cos.Dict()))
}

// R5: what is asked ahead or at the same time does not count.

func TestHangsOnArguments(t *testing.T) {
	given := []byte("xref 1 2 " + one + two + "7 1 " + three + "trailer <</A[(x)]>>")
	rows := []table.Row{placed(1, 16, 0), free(2, 3, 65535), placed(7, 9999999999, 99999)}
	want := came(cos.Dict(cos.Pair("A", cos.Arr(cos.Str([]byte("x"))))), len(given), rows...)
	trailer := cos.Dict(cos.Pair("A", nested(20)))
	printed := "<</A " + strings.Repeat("[", 20) + strings.Repeat("]", 20) + ">>"
	for i := range 20 {
		t.Run("", func(t *testing.T) {
			t.Parallel()
			c := newChance(int64(i))
			for range 200 {
				read(parse.New([]byte("xref 5 3 "+one+one[:c.Intn(20)]), c.Intn(5)))
				holds(t, "many at once", read(parse.New(given, 28)), want)
				few := c.rows(5)
				holds(t, "many at once", write(trailer, few...), written(slowWrite(printed, few...)))
				holds(t, "many at once", write(trailer, rows...), refused())
				finds(t, rows[:3:3], 2, rows[1], true)
			}
		})
	}
}
