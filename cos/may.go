package cos

import (
	"slices"
	"strings"

	"pressmark/api"
)

// mostReal is the greatest number of a Real.
const mostReal = api.MaxInt*api.One + api.One - 1

// May tells if an object may be.
func May(o api.Obj) bool {
	for around, part := range within(o) {
		if around+layer(part) > api.MaxDepth || !sound(part) {
			return false
		}
	}
	return true
}

// sound tells if o may be, as far as it can be told without what is in its items and values.
func sound(o api.Obj) bool {
	return api.Null <= o.Kind && o.Kind <= api.Ref && filled(o)&^uses(o.Kind) == 0 && numbered(o) && long(o) && holding(o)
}

// numbered tells if o has a number of its kind.
func numbered(o api.Obj) bool {
	switch o.Kind {
	case api.Bool:
		return between(o.N, 0, 1)
	case api.Int:
		return between(o.N, -api.MaxInt, api.MaxInt)
	case api.Real:
		return between(o.N, -mostReal, mostReal)
	case api.Ref:
		return between(o.N, 1, api.MaxNumber)
	}
	return true
}

// between tells if n is from least to most.
func between(n, least, most int64) bool { return least <= n && n <= most }

// long tells if o has bytes of its kind.
func long(o api.Obj) bool {
	switch o.Kind {
	case api.Str:
		return len(o.B) <= api.MaxText
	case api.Name:
		return named(string(o.B))
	case api.Stream:
		return len(o.B) <= api.MaxFile
	}
	return true
}

// named tells if s may be a name or a key.
func named(s string) bool {
	return len(s) <= api.MaxName && strings.IndexByte(s, 0) < 0
}

// holding tells if o holds what its kind may hold.
func holding(o api.Obj) bool {
	return !slices.ContainsFunc(o.L, stream) && !slices.ContainsFunc(o.D, wrong) && rise(o.D)
}

// stream tells if o is one.
func stream(o api.Obj) bool { return o.Kind == api.Stream }

// wrong tells if an entry may not be.
func wrong(e api.Entry) bool { return !named(e.Key) || null(e.Val) || stream(e.Val) }
