package chain

import (
	"pressmark/api"
	"pressmark/cos"
	"pressmark/predict"
)

// Keys of a stream.
const (
	filterKey = "Filter"
	parmsKey  = "DecodeParms"
)

// Keys of what is told of a filter.
const (
	predictorKey = "Predictor"
	colorsKey    = "Colors"
	columnsKey   = "Columns"
	earlyKey     = "EarlyChange"
	bitsKey      = "BitsPerComponent"
)

const (
	usual = 1 // what a number is that is not told
	plain = 1 // the Predictor of bytes as they are
	bits  = 8 // of a sample
)

// none tells if there is nothing: o is null, or of a kind that there is not.
func none(o api.Obj) bool { return cos.Same(o, cos.None()) }

// linked are links by their names and what is told of each.
func linked(names, parms []api.Obj) ([]Link, api.Errno) {
	if len(names) > api.MaxFilter || len(names) != len(parms) {
		return nil, api.ErrForm
	}
	links := make([]Link, len(names))
	for i, name := range names {
		l, ok := told(parms[i])
		if name.Kind != api.Name || !ok {
			return nil, api.ErrForm
		}
		l.Name = string(name.B)
		links[i] = l
	}
	return links, api.OK
}

// told is a link without its name, by what is told of it.
func told(parms api.Obj) (Link, bool) {
	if parms.Kind != api.Dict && !none(parms) {
		return Link{}, false
	}
	var l Link
	for _, f := range [...]struct {
		key string
		to  *int
	}{
		{predictorKey, &l.Predictor}, {colorsKey, &l.Colors}, {columnsKey, &l.Columns}, {earlyKey, &l.Early},
	} {
		n, ok := number(parms, f.key, usual)
		if !ok {
			return Link{}, false
		}
		*f.to = n
	}
	return l, l.May() && l.Early == usual && (l.Predictor == plain || whole(parms))
}

// number is that of a key, or another one, where there is none.
func number(parms api.Obj, key string, other int) (int, bool) {
	o := cos.Get(parms, key)
	if none(o) {
		return other, true
	}
	return int(o.N), o.Kind == api.Int
}

// whole tells if each sample is a whole byte.
func whole(parms api.Obj) bool {
	n, ok := number(parms, bitsKey, bits)
	return ok && n == bits
}

// shaped are links in a list of their own, each with a Shape: one of noughts is as if none was told.
func shaped(links ...Link) []Link {
	links = append([]Link(nil), links...)
	for i, l := range links {
		if l.Shape == (predict.Shape{}) {
			links[i].Shape = predict.Shape{Predictor: plain, Colors: usual, Columns: usual}
		}
	}
	return links
}

// entries are what a stream says of its links.
func entries(links ...Link) []api.Entry {
	names, parms := make([]api.Obj, len(links)), make([]api.Obj, len(links))
	tells := false
	for i, l := range links {
		names[i] = cos.Name(l.Name)
		if l.Predictor != plain {
			parms[i], tells = l.tell(), true
		}
	}
	if !tells {
		return []api.Entry{cos.Pair(filterKey, row(names...))}
	}
	return []api.Entry{cos.Pair(filterKey, row(names...)), cos.Pair(parmsKey, row(parms...))}
}

// tell is what is told of a link.
func (l Link) tell() api.Obj {
	return cos.Dict(
		cos.Pair(bitsKey, cos.Int(bits)),
		cos.Pair(colorsKey, cos.Int(l.Colors)),
		cos.Pair(columnsKey, cos.Int(l.Columns)),
		cos.Pair(predictorKey, cos.Int(l.Predictor)),
	)
}

// row is null of no object, of one it alone, of several an array.
func row(l ...api.Obj) api.Obj {
	switch len(l) {
	case 0:
		return cos.None()
	case 1:
		return l[0]
	}
	return cos.Arr(l...)
}
