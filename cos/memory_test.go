package cos_test

import (
	"slices"
	"strings"
	"testing"
	"unsafe"

	"pressmark/api"
	"pressmark/cos"
)

// roomy is o in new memory, with room behind each list that is not empty of what nothing may touch.
func roomy(o api.Obj) api.Obj {
	o.B = append(slices.Clone(o.B), "room"...)[:len(o.B)]
	l := make([]api.Obj, 0, len(o.L)+2)
	for _, part := range o.L {
		l = append(l, roomy(part))
	}
	o.L = append(l, text(77, "room"), arr(whole(1)))[:len(l)]
	d := make([]api.Entry, 0, len(o.D)+2)
	for _, e := range o.D {
		d = append(d, entry(e.Key, roomy(e.Val)))
	}
	o.D = append(d, entry("room", text(77, "room")), entry("A", whole(1)))[:len(d)]
	return o
}

// all is o with the room behind its lists as part of them.
func all(o api.Obj) api.Obj {
	o.B, o.L, o.D = o.B[:cap(o.B)], slices.Clone(o.L[:cap(o.L)]), slices.Clone(o.D[:cap(o.D)])
	for i := range o.L {
		o.L[i] = all(o.L[i])
	}
	for i := range o.D {
		o.D[i].Val = all(o.D[i].Val)
	}
	return o
}

// span is where a list stands in memory.
type span struct{ from, to uintptr }

func spanOf[T any](l []T) span {
	var one T
	from := uintptr(unsafe.Pointer(unsafe.SliceData(l)))
	return span{from, from + uintptr(cap(l))*unsafe.Sizeof(one)}
}

// spans are where the lists of o stand, with their room, but those without any.
func spans(o api.Obj) []span {
	l := []span{spanOf(o.B), spanOf(o.L), spanOf(o.D)}
	for _, part := range o.L[:cap(o.L)] {
		l = append(l, spans(part)...)
	}
	for _, e := range o.D[:cap(o.D)] {
		l = append(l, spans(e.Val)...)
	}
	return slices.DeleteFunc(l, func(s span) bool { return s.from == s.to })
}

// apart tells if two of the lists share memory.
func apart(t *testing.T, what string, l []span) {
	t.Helper()
	slices.SortFunc(l, func(a, b span) int {
		if a.from < b.from {
			return -1
		}
		return 1
	})
	for i := 1; i < len(l); i++ {
		if l[i-1].to > l[i].from {
			t.Errorf("%s: two lists share memory", what)
			return
		}
	}
}

// spoil changes all of an answer, room too.
func spoil(o api.Obj) {
	for i := range o.B[:cap(o.B)] {
		o.B[:cap(o.B)][i] ^= 0xFF
	}
	for i, part := range o.L[:cap(o.L)] {
		spoil(part)
		o.L[:cap(o.L)][i] = text(99, "spoilt")
	}
	for i, e := range o.D[:cap(o.D)] {
		spoil(e.Val)
		o.D[:cap(o.D)][i] = entry("spoilt", text(99, "spoilt"))
	}
}

// holds tells if got is not want.
func holds(t *testing.T, what string, got, want api.Obj) {
	t.Helper()
	if told(got) != told(want) {
		t.Errorf("%s: %s, want %s", what, short(told(got)), short(told(want)))
	}
}

// makes asks what f makes of o, that it leaves o as it is, and that what it answers is new memory.
func makes(t *testing.T, what string, f func(api.Obj) api.Obj, o, want api.Obj) {
	t.Helper()
	given := roomy(o)
	was := told(all(given))
	got, other := f(given), f(given)
	holds(t, what, got, want)
	apart(t, what, append(append(spans(got), spans(given)...), spans(other)...))
	spoil(got)
	if told(all(given)) != was {
		t.Errorf("%s: what was handed in is changed", what)
	}
	holds(t, what+", another answer changed", other, want)
	holds(t, what+", asked again", f(given), want)
	other = f(given)
	spoil(given)
	holds(t, what+", what was handed in changed since", other, want)
}

// leaves asks that f leaves o as it is.
func leaves(t *testing.T, what string, f func(api.Obj), o api.Obj) {
	t.Helper()
	given := roomy(o)
	was := told(all(given))
	f(given)
	if told(all(given)) != was {
		t.Errorf("%s: what was handed in is changed", what)
	}
}

// The calls, each of an object that holds what they are given.

func copied(o api.Obj) api.Obj { return cos.Copy(o) }

func made(o api.Obj) api.Obj { return cos.Arr(o.L...) }

func dicted(o api.Obj) api.Obj { return cos.Dict(o.D...) }

func streamed(o api.Obj) api.Obj { return cos.Stream(o.B, o.D...) }

func got(key string) func(api.Obj) api.Obj {
	return func(o api.Obj) api.Obj { return cos.Get(o, key) }
}

func dropped(keys ...string) func(api.Obj) api.Obj {
	return func(o api.Obj) api.Obj { return cos.Drop(o, keys...) }
}

// set is asked of an array of what is set and of a dictionary of the entries.
func set(o api.Obj) api.Obj { return cos.Set(o.L[0], o.L[1].D...) }

// sets asks what Set makes of o and l.
func sets(t *testing.T, what string, o api.Obj, l []api.Entry, want api.Obj) {
	t.Helper()
	makes(t, what, set, arr(o, dict(l...)), want)
}

// R4: the keys that Drop is given, too.

func TestDropLeavesKeys(t *testing.T) {
	keys := []string{"B", "A", "B", "Z", "room", "room"}
	was := strings.Join(keys, " ")
	o := dict(entry("A", whole(1)), entry("B", whole(2)), entry("C", whole(3)))
	for n := range 5 {
		cos.Drop(o, keys[:n]...)
	}
	if strings.Join(keys, " ") != was {
		t.Errorf("the keys are %q, were %s", keys, was)
	}
	holds(t, "what it is dropped from", o, dict(entry("A", whole(1)), entry("B", whole(2)), entry("C", whole(3))))
}

// R4: those that answer no object leave what they are given.

func TestLeaves(t *testing.T) {
	given := []api.Obj{
		plain(api.Stream),
		arr(plain(api.Dict), plain(api.Stream), plain(api.Str)),
		dict(entry("B", whole(1)), entry("A", whole(2)), entry("B", whole(3)), entry("A", plain(api.Dict))),
		{Kind: api.Int, N: 3, B: []byte("odd"), L: []api.Obj{ref(1)}, D: []api.Entry{entry("A", ref(2))}},
	}
	c := newChance(104)
	for range 300 {
		given = append(given, c.object(3))
	}
	for _, o := range given {
		leaves(t, "May", func(o api.Obj) { cos.May(o) }, o)
		leaves(t, "Depth", func(o api.Obj) { cos.Depth(o) }, o)
		leaves(t, "Same", func(o api.Obj) { cos.Same(o, cos.Copy(o)); cos.Same(cos.Copy(o), o); cos.Same(o, o) }, o)
		leaves(t, "Refs", func(o api.Obj) {
			l := cos.Refs(o)
			other := cos.Refs(o)
			clear(l[:cap(l)])
			if !slices.Equal(other, slowRefs(o)) {
				t.Error("Refs: another answer changed with it")
			}
		}, o)
	}
}

// R5: what is asked at the same time, or ahead, does not count.

func TestHangsOnArguments(t *testing.T) {
	o := newChance(105).object(5)
	for i := range 20 {
		t.Run("", func(t *testing.T) {
			t.Parallel()
			c := newChance(int64(i))
			for range 50 {
				other := c.object(4)
				cos.Set(cos.Dict(entry("A", other)), entry("A", null()))
				if cos.May(other) != slowMay(other) || cos.Depth(o) != slowDepth(o) || cos.May(o) != slowMay(o) || !slices.Equal(cos.Refs(o), slowRefs(o)) {
					t.Error("many at once")
				}
				holds(t, "many at once", cos.Copy(o), o)
				holds(t, "many at once", cos.Set(plain(api.Dict), entry("AB", other)), slowSet(plain(api.Dict), entry("AB", other)))
			}
		})
	}
}
