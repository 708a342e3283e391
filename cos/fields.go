package cos

import (
	"bytes"
	"slices"

	"pressmark/api"
)

// Fields of an object.
const (
	fieldN = 1 << iota
	fieldB
	fieldL
	fieldD
)

// uses are the fields that a kind uses: none of Null, nor of a kind that there is not, which is as Null.
func uses(kind int) int {
	switch kind {
	case api.Bool, api.Int, api.Real, api.Ref:
		return fieldN
	case api.Str, api.Name:
		return fieldB
	case api.Arr:
		return fieldL
	case api.Dict:
		return fieldD
	case api.Stream:
		return fieldB | fieldD
	}
	return 0
}

// filled are the fields of o that are not zero.
func filled(o api.Obj) int {
	fields := 0
	if o.N != 0 {
		fields |= fieldN
	}
	if len(o.B) > 0 {
		fields |= fieldB
	}
	if len(o.L) > 0 {
		fields |= fieldL
	}
	if len(o.D) > 0 {
		fields |= fieldD
	}
	return fields
}

// null tells if o is null.
func null(o api.Obj) bool { return uses(o.Kind) == 0 }

// keyed tells if o has entries.
func keyed(o api.Obj) bool { return uses(o.Kind)&fieldD != 0 }

// layer is how deep o is without what is in it.
func layer(o api.Obj) int {
	if uses(o.Kind)&(fieldL|fieldD) != 0 {
		return 1
	}
	return 0
}

// used is o as far as its kind uses its fields.
func used(o api.Obj) api.Obj {
	fields := uses(o.Kind)
	if fields == 0 {
		return None()
	}
	if fields&fieldN == 0 {
		o.N = 0
	}
	if fields&fieldB == 0 {
		o.B = nil
	}
	if fields&fieldL == 0 {
		o.L = nil
	}
	if fields&fieldD == 0 {
		o.D = nil
	}
	return o
}

// counted is o as far as it counts where nothing else is said: of a key that stands twice the first entry alone.
func counted(o api.Obj) api.Obj {
	o = used(o)
	o.D = firsts(o.D)
	return o
}

// Same tells if a and b are the same, as far as their kinds use their fields.
func Same(a, b api.Obj) bool {
	type pair struct{ a, b api.Obj }
	open := []pair{{a, b}}
	for len(open) > 0 {
		last := open[len(open)-1]
		open = open[:len(open)-1]
		a, b := counted(last.a), counted(last.b)
		if !outside(a, b) {
			return false
		}
		for i := range a.L {
			open = append(open, pair{a.L[i], b.L[i]})
		}
		for i := range a.D {
			open = append(open, pair{a.D[i].Val, b.D[i].Val})
		}
	}
	return true
}

// outside tells if a and b are the same but for what is in them.
func outside(a, b api.Obj) bool {
	return a.Kind == b.Kind && a.N == b.N && bytes.Equal(a.B, b.B) && len(a.L) == len(b.L) && slices.EqualFunc(a.D, b.D, sameKey)
}
