package cos

import (
	"iter"

	"pressmark/api"
)

// place is a place among what stands in an object.
type place struct {
	of api.Obj
	at int
}

// next is what stands at the place, which then is the one behind it.
func (p *place) next() (api.Obj, bool) {
	at := p.at
	p.at++
	// An object uses its items or its entries, never both.
	switch {
	case at < len(p.of.L):
		return p.of.L[at], true
	case at < len(p.of.D):
		return p.of.D[at].Val, true
	}
	return None(), false
}

// within goes through o and all that is in it, in order, each with how many objects there are around it. An object may be deeper than calls can stand in one another, so it keeps those around in a list.
func within(o api.Obj) iter.Seq2[int, api.Obj] {
	return func(yield func(int, api.Obj) bool) {
		if !yield(0, o) {
			return
		}
		around := []place{{of: used(o)}}
		for len(around) > 0 {
			part, ok := around[len(around)-1].next()
			if !ok {
				around = around[:len(around)-1]
				continue
			}
			if !yield(len(around), part) {
				return
			}
			around = append(around, place{of: used(part)})
		}
	}
}

// Depth is how many arrays, dictionaries and streams stand in one another in o.
func Depth(o api.Obj) int {
	most := 0
	for around, part := range within(o) {
		most = max(most, around+layer(part))
	}
	return most
}

// Refs are the numbers of all Refs in o, in order.
func Refs(o api.Obj) []int {
	var all []int
	for _, part := range within(o) {
		if part.Kind == api.Ref {
			all = append(all, int(part.N))
		}
	}
	return all
}
