package print

import (
	"pressmark/api"
	"pressmark/cos"
	"pressmark/fixed"
)

// add is a row with parts behind it. All of an object goes into one row, for what is deep would be copied once for each bracket around it, if each had a row of its own.
func add[T string | []byte](row []byte, parts ...T) []byte {
	for _, part := range parts {
		row = append(row, part...)
	}
	return row
}

// number is a row with a number behind it.
func number(row []byte, n int64, whole bool) []byte { return add(row, fixed.Text(n, whole)) }

// value is a row with an object behind it, which may be and is no stream.
func value(row []byte, o api.Obj) []byte {
	switch o.Kind {
	case api.Bool:
		return add(row, truth(o.N))
	case api.Int, api.Real:
		return number(row, o.N, o.Kind == api.Int)
	case api.Str:
		return add(row, Text(o.B))
	case api.Name:
		return add(row, Name(string(o.B)))
	case api.Ref:
		return add(number(row, o.N, true), " 0 R")
	case api.Arr:
		return items(row, o.L...)
	case api.Dict:
		return entries(row, o.D...)
	}
	return add(row, "null")
}

// truth is what the number of a Bool says.
func truth(n int64) string {
	if n == 1 {
		return "true"
	}
	return "false"
}

// items is a row with an array behind it.
func items(row []byte, l ...api.Obj) []byte {
	row = add(row, "[")
	for i, o := range l {
		if i > 0 {
			row = add(row, " ")
		}
		row = value(row, o)
	}
	return add(row, "]")
}

// entries is a row with a dictionary behind it.
func entries(row []byte, l ...api.Entry) []byte {
	row = add(row, "<<")
	for _, e := range l {
		row = add(row, Name(e.Key), []byte(" "))
		row = value(row, e.Val)
	}
	return add(row, ">>")
}

// body is a row with an item's object behind it, a stream's data too.
func body(row []byte, o api.Obj) []byte {
	if o.Kind != api.Stream {
		return value(row, o)
	}
	dict := cos.Set(cos.Dict(o.D...), cos.Pair("Length", cos.Int(len(o.B))))
	row = add(value(row, dict), "\nstream\n")
	row = add(row, o.B)
	return add(row, "\nendstream")
}

// measured tells if o says its Length already.
func measured(o api.Obj) bool { return cos.Get(o, "Length").Kind != api.Null }
