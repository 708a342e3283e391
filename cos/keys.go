package cos

import (
	"cmp"
	"slices"

	"pressmark/api"
)

// Get is the value of a key, or null.
func Get(o api.Obj, key string) api.Obj {
	for _, e := range used(o).D {
		if e.Key == key {
			return Copy(e.Val)
		}
	}
	return None()
}

// Set is a dictionary or a stream with the entries l in turn; of a null value the key is gone.
func Set(o api.Obj, l ...api.Entry) api.Obj {
	if !keyed(o) {
		return Copy(o)
	}
	keys := make([]string, 0, len(l))
	for _, e := range l {
		keys = append(keys, e.Key)
	}
	made := Drop(o, keys...)
	made.D = rising(append(made.D, Dict(l...).D...), keyOf)
	return made
}

// Drop is a dictionary or a stream without these keys.
func Drop(o api.Obj, keys ...string) api.Obj {
	if keyed(o) {
		o.D = without(o.D, keys)
	}
	return Copy(o)
}

// without are the entries of l of other keys than these.
func without(l []api.Entry, keys []string) []api.Entry {
	gone := make(map[string]struct{}, len(keys))
	for _, key := range keys {
		gone[key] = struct{}{}
	}
	return kept(l, func(e api.Entry) bool {
		_, ok := gone[e.Key]
		return !ok
	})
}

// firsts are the first ones of each key in l.
func firsts(l []api.Entry) []api.Entry {
	if rise(l) {
		return l
	}
	met := make(map[string]struct{}, len(l))
	return kept(l, func(e api.Entry) bool {
		_, ok := met[e.Key]
		met[e.Key] = struct{}{}
		return !ok
	})
}

// lasts are the last ones of each key in l, by rising keys, without those whose value is null.
func lasts(l []api.Entry) []api.Entry {
	l = rising(l, keyOf)
	at := 0
	return kept(l, func(e api.Entry) bool {
		at++
		again := at < len(l) && sameKey(e, l[at])
		return !again && !null(e.Val)
	})
}

// kept are those of l of which keep is true, each asked in turn.
func kept[T any](l []T, keep func(T) bool) []T {
	var some []T
	for _, one := range l {
		if keep(one) {
			some = append(some, one)
		}
	}
	return some
}

// rising is l by rising keys; those of one key stay in their order.
func rising[T any, K cmp.Ordered](l []T, key func(T) K) []T {
	l = anew(l)
	slices.SortStableFunc(l, func(a, b T) int { return cmp.Compare(key(a), key(b)) })
	return l
}

// rise tells if the keys of l rise, each once.
func rise(l []api.Entry) bool {
	for i := 1; i < len(l); i++ {
		if l[i-1].Key >= l[i].Key {
			return false
		}
	}
	return true
}

func keyOf(e api.Entry) string { return e.Key }

func sameKey(a, b api.Entry) bool { return a.Key == b.Key }
