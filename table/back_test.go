package table_test

import (
	"fmt"
	"slices"
	"testing"

	"pressmark/api"
	"pressmark/cos"
	"pressmark/parse"
	"pressmark/table"
)

// P15.3: what is written is read as it was.

// back asks that what Write answers is read as the rows and the trailer, wherever it stands and whatever stands behind it, and written again is the same.
func back(t *testing.T, trailer api.Obj, rows ...table.Row) {
	t.Helper()
	b, e := table.Write(trailer, rows...)
	if e != api.OK {
		t.Errorf("%v: %v", rows, e)
		return
	}
	// As deep as the trailer is, and no deeper, is enough.
	for _, depth := range []int{28, cos.Depth(trailer)} {
		for _, ahead := range []string{"", "%PDF-1.4\n1 0 obj 5 endobj\n"} {
			for _, behind := range []string{"", "startxref\n0\n%%EOF\n", "x", ")"} {
				p := parse.New(slices.Concat([]byte(ahead), b, []byte(behind)), depth)
				p.Seek(len(ahead))
				s, e := table.Read(p)
				// Behind the trailer the end of its line is left.
				if e != api.OK || !slices.Equal(s.Rows, rows) || !cos.Same(s.Trailer, trailer) || !cos.May(s.Trailer) || p.At() != len(ahead)+len(b)-1 || p.Next() != '\n' {
					t.Errorf("%v, ahead %q, behind %q: %v, %v, stands at %d", rows, ahead, behind, s, e, p.At())
				}
				holds(t, fmt.Sprint("written again, ", rows), write(s.Trailer, s.Rows...), written(string(b)))
			}
		}
	}
}

func TestBack(t *testing.T) {
	trailers := []api.Obj{cos.Dict(), cos.Dict(cos.Pair("Root", cos.Ref(8388607)), cos.Pair("Size", cos.Int(8388608))), cos.Dict(cos.Pair("A", nested(27))), cos.Dict(cos.Pair("trailer", cos.Str([]byte("xref\n0 1\n"))), cos.Pair("", cos.Name("")))}
	for _, trailer := range trailers {
		back(t, trailer)
		for _, num := range []int{0, 1, 8388606, 8388607} {
			for _, at := range []int{0, 1, 2147483647, 2147483648, 9999999998, 9999999999} {
				for _, gen := range []int{0, 1, 65534, 65535} {
					for kind := range 2 {
						row := table.Row{Num: num, Kind: kind, At: at, Gen: gen}
						back(t, trailer, row)
						if num > 0 {
							back(t, trailer, free(num-1, 5, 0), row)
							back(t, trailer, free(0, 0, 65535), table.Row{Num: num, Kind: kind, At: at, Gen: gen})
						}
						if num < 8388607 {
							back(t, trailer, row, placed(8388607, 5, 0))
						}
					}
				}
			}
		}
		back(t, trailer, free(0, 0, 65535), placed(1, 5, 0), placed(2, 6, 0), free(4, 7, 1), placed(5, 8, 0), placed(9, 9, 9), placed(8388606, 1, 1), free(8388607, 9999999999, 65535))
	}
}

func TestBackByChance(t *testing.T) {
	c := newChance(154)
	for range 5000 {
		trailer, _ := c.trailer()
		back(t, trailer, c.rows(12)...)
	}
}

func TestManyBack(t *testing.T) {
	c := newChance(155)
	var rows []table.Row
	for num := 0; len(rows) < 200000; num += of(c, 1, 1, 1, 2, 9) {
		rows = append(rows, table.Row{Num: num, Kind: c.Intn(2), At: c.Intn(10000000000), Gen: c.Intn(65536)})
	}
	back(t, cos.Dict(), rows...)
}

func FuzzBack(f *testing.F) {
	f.Add([]byte("xref\n0 1\n0000000000 65535 f \ntrailer\n<<>>\n"))
	f.Add([]byte("xref 3 2\r\n" + one + two + "9 0 trailer<</A[1 0 R]>>"))
	f.Fuzz(func(t *testing.T, b []byte) {
		// What can be read can be written, where its numbers rise and are not too great.
		s, e := table.Read(parse.New(b, api.MaxDepth))
		if e == api.OK && writable(s.Rows) {
			back(t, s.Trailer, s.Rows...)
		}
	})
}
