package xstream

import (
	"pressmark/api"
	"pressmark/lex"
	"pressmark/parse"
)

// objectReader reads objects, of which their numbers and places stand ahead.
type objectReader struct {
	*parse.Parser
	first int // the place of all objects: theirs are counted from it
	heads []head
}

// head is an object's number and place.
type head struct{ num, place int }

// objectsIn are so many objects in b.
func objectsIn(b []byte, depth, many, first int) ([]api.Item, api.Errno) {
	r := objectReader{Parser: parse.New(b, depth), first: first}
	for range many {
		if e := r.head(); e != api.OK {
			return nil, e
		}
	}
	if r.Pos() > first {
		return nil, api.ErrForm
	}
	return r.items()
}

// head passes a number and a place.
func (r *objectReader) head() api.Errno {
	num, e := r.whole(1, api.MaxNumber)
	if e != api.OK {
		return e
	}
	place, e := r.whole(0, api.MaxInt)
	if e != api.OK {
		return e
	}
	r.heads = append(r.heads, head{num, place})
	return api.OK
}

// whole passes a whole number from least to most.
func (r *objectReader) whole(least, most int64) (int, api.Errno) {
	t, e := r.Token()
	switch {
	case e != api.OK:
		return 0, e
	case t.Kind == lex.End:
		return 0, api.ErrShort
	case t.Kind != lex.Whole || !between(t.N, least, most):
		return 0, api.ErrForm
	}
	return int(t.N), api.OK
}

// items are the objects of which the heads were read, each from its place.
func (r *objectReader) items() ([]api.Item, api.Errno) {
	items := make([]api.Item, len(r.heads))
	for i, h := range r.heads {
		if !r.Seek(r.first + h.place) {
			return nil, api.ErrShort
		}
		o, e := r.Value()
		if e != api.OK {
			return nil, e
		}
		items[i] = api.Item{Num: h.num, Obj: o}
	}
	return items, api.OK
}
