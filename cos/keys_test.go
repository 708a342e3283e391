package cos_test

import (
	"fmt"
	"strings"
	"testing"

	"pressmark/api"
	"pressmark/cos"
)

// P10.3

func TestGet(t *testing.T) {
	l := []api.Entry{entry("", whole(9)), entry("A", whole(1)), entry("AB", arr(whole(1), text(api.Str, "x"))), entry("B", plain(api.Dict)), entry("\xff", ref(3))}
	for _, o := range []api.Obj{dict(l...), stream("A", l...)} {
		for _, e := range l {
			makes(t, fmt.Sprintf("Get %q", e.Key), got(e.Key), o, e.Val)
		}
		for _, key := range []string{"a", "ABC", "C", "A ", " A", "\x00", "A\x00", "\xfe", "\xff\xff", "room", strings.Repeat("A", 200)} {
			makes(t, fmt.Sprintf("Get %q", key), got(key), o, null())
		}
	}
	makes(t, "Get of none", got("A"), dict(), null())
	makes(t, "Get of none", got(""), stream("A"), null())
}

func TestGetOfKinds(t *testing.T) {
	all, none := kinds()
	for _, kind := range append(all, none...) {
		odd := plain(kind)
		odd.D = []api.Entry{entry("A", whole(5))}
		want := null()
		if usesD(kind) {
			want = whole(5)
		}
		makes(t, fmt.Sprint("Get of kind ", kind), got("A"), odd, want)
		makes(t, fmt.Sprint("Get of kind ", kind), got("B"), odd, null())
		// Only its own entries, not those within.
		makes(t, fmt.Sprint("Get of kind ", kind, " within"), got("A"), arr(odd), null())
		makes(t, fmt.Sprint("Get of kind ", kind, " within"), got("A"), dict(entry("B", odd)), null())
		if kind < 0 || kind > 9 {
			continue
		}
		makes(t, fmt.Sprint("Get a value of kind ", kind), got("B"), dict(entry("A", whole(1)), entry("B", plain(kind))), plain(kind))
		makes(t, fmt.Sprint("Get a value of kind ", kind), got("B"), stream("x", entry("B", plain(kind))), plain(kind))
	}
}

func TestGetTwice(t *testing.T) {
	for _, o := range []api.Obj{dict(pairs("A", 1, "A", 2)...), stream("x", pairs("A", 1, "A", 2, "A", 3)...), dict(pairs("B", 3, "A", 1, "C", 4, "A", 2)...), dict(pairs("C", 1, "A", 1, "A", 0)...)} {
		makes(t, "Get of a key that stands twice", got("A"), o, whole(1))
	}
	makes(t, "Get of a key whose first is null", got("A"), dict(pairs("A", 0, "A", 2)...), null())
	makes(t, "Get of keys that fall", got("A"), dict(pairs("C", 3, "B", 2, "A", 1)...), whole(1))
	makes(t, "Get of keys that fall", got("C"), dict(pairs("C", 3, "B", 2, "A", 1)...), whole(3))
}

func TestSet(t *testing.T) {
	for _, c := range []struct {
		what       string
		o, l, want []api.Entry
	}{
		{"nothing of nothing", nil, nil, nil},
		{"nothing", pairs("A", 1, "B", 2), nil, pairs("A", 1, "B", 2)},
		{"of nothing", nil, pairs("A", 1), pairs("A", 1)},
		{"ahead of all", pairs("B", 1, "D", 2), pairs("A", 3), pairs("A", 3, "B", 1, "D", 2)},
		{"no key, ahead of all", pairs("B", 1, "D", 2), pairs("", 3), pairs("", 3, "B", 1, "D", 2)},
		{"between", pairs("B", 1, "D", 2), pairs("C", 3), pairs("B", 1, "C", 3, "D", 2)},
		{"between, one the beginning", pairs("B", 1, "D", 2), pairs("BA", 3), pairs("B", 1, "BA", 3, "D", 2)},
		{"behind", pairs("B", 1, "D", 2), pairs("E", 3), pairs("B", 1, "D", 2, "E", 3)},
		{"behind, by bytes", pairs("B", 1, "D", 2), pairs("\x80", 3), pairs("B", 1, "D", 2, "\x80", 3)},
		{"the first", pairs("B", 1, "D", 2, "F", 3), pairs("B", 4), pairs("B", 4, "D", 2, "F", 3)},
		{"the middle", pairs("B", 1, "D", 2, "F", 3), pairs("D", 4), pairs("B", 1, "D", 4, "F", 3)},
		{"the last", pairs("B", 1, "D", 2, "F", 3), pairs("F", 4), pairs("B", 1, "D", 2, "F", 4)},
		{"null, the first", pairs("B", 1, "D", 2, "F", 3), pairs("B", 0), pairs("D", 2, "F", 3)},
		{"null, the middle", pairs("B", 1, "D", 2, "F", 3), pairs("D", 0), pairs("B", 1, "F", 3)},
		{"null, the last", pairs("B", 1, "D", 2, "F", 3), pairs("F", 0), pairs("B", 1, "D", 2)},
		{"null, the only one", pairs("B", 1), pairs("B", 0), nil},
		{"null where there is none", pairs("B", 1, "D", 2), pairs("C", 0), pairs("B", 1, "D", 2)},
		{"null of nothing", nil, pairs("A", 0), nil},
		{"several", pairs("B", 1, "D", 2), pairs("E", 3, "A", 4, "C", 5, "D", 6), pairs("A", 4, "B", 1, "C", 5, "D", 6, "E", 3)},
		{"all", pairs("B", 1, "D", 2), pairs("D", 3, "B", 4), pairs("B", 4, "D", 3)},
		{"all null", pairs("B", 1, "D", 2), pairs("D", 0, "B", 0), nil},
		{"one key twice", pairs("B", 1), pairs("B", 2, "B", 3), pairs("B", 3)},
		{"a new key twice", pairs("B", 1), pairs("A", 2, "A", 3), pairs("A", 3, "B", 1)},
		{"one key thrice", pairs("B", 1), pairs("B", 2, "A", 5, "B", 3, "C", 6, "B", 4), pairs("A", 5, "B", 4, "C", 6)},
		{"something, then null", pairs("B", 1), pairs("B", 2, "B", 0), nil},
		{"a new key, then null", pairs("B", 1), pairs("A", 2, "A", 0), pairs("B", 1)},
		{"null, then something", pairs("B", 1, "C", 2), pairs("B", 0, "B", 3), pairs("B", 3, "C", 2)},
		{"null of a new key, then something", pairs("B", 1), pairs("A", 0, "A", 3), pairs("A", 3, "B", 1)},
		{"null twice", pairs("B", 1, "C", 2), pairs("B", 0, "B", 0), pairs("C", 2)},
		{"a key with a nought", pairs("A", 1), pairs("A\x00", 2), pairs("A", 1, "A\x00", 2)},
		// What is set may stand twice there: by the first it counts, and it is in its place.
		{"a key that stands twice", pairs("A", 1, "A", 2, "B", 3), pairs("A", 4), pairs("A", 4, "B", 3)},
		{"null of a key that stands twice", pairs("A", 1, "A", 2, "B", 3), pairs("A", 0), pairs("B", 3)},
		{"null of a key that stands thrice", pairs("A", 1, "A", 2, "A", 3), pairs("A", 0), nil},
		{"null where one is null", pairs("A", 0, "B", 3), pairs("A", 0), pairs("B", 3)},
		{"another of one that is null", pairs("A", 0, "B", 3), pairs("A", 4), pairs("A", 4, "B", 3)},
	} {
		sets(t, "Set, "+c.what, dict(c.o...), c.l, dict(c.want...))
		sets(t, "Set of a stream, "+c.what, stream("data", c.o...), c.l, stream("data", c.want...))
		holds(t, c.what+", the slow one", slowSet(dict(c.o...), c.l...), dict(c.want...))
	}
}

func TestSetOfKinds(t *testing.T) {
	all, none := kinds()
	for _, kind := range append(all, none...) {
		o := plain(kind)
		what := fmt.Sprint("kind ", kind)
		want := []api.Entry{entry("A", whole(7)), entry("B", o), entry("C", whole(8))}
		if isNull(o) {
			want = pairs("A", 7, "C", 8)
		}
		sets(t, "Set, a value of "+what, dict(pairs("A", 7, "B", 6, "C", 8)...), []api.Entry{entry("B", o)}, dict(want...))
		sets(t, "Set, a new value of "+what, dict(pairs("A", 7, "C", 8)...), []api.Entry{entry("B", o)}, dict(want...))
		if usesD(kind) {
			continue
		}
		odd := o
		odd.D = pairs("A", 1)
		for _, l := range [][]api.Entry{nil, pairs("A", 2), pairs("A", 0), pairs("B", 1)} {
			sets(t, "Set of "+what, o, l, o)
			sets(t, "Set of odd "+what, odd, l, odd)
		}
		for _, keys := range [][]string{nil, {"A"}, {"B", "A"}} {
			makes(t, "Drop of "+what, dropped(keys...), o, o)
			makes(t, "Drop of odd "+what, dropped(keys...), odd, odd)
		}
	}
}

func TestSetOfFew(t *testing.T) {
	for _, was := range few(2) {
		for _, l := range few(3) {
			holds(t, told(dict(was...))+", "+told(dict(l...)), cos.Set(dict(was...), l...), slowSet(dict(was...), l...))
		}
	}
}

func TestSetByChance(t *testing.T) {
	c := newChance(106)
	for range 3000 {
		o, l := c.object(3), c.entries(5, 2)
		if c.Intn(3) > 0 {
			o = dict(c.entries(8, 2)...)
		}
		sets(t, "Set by chance", o, l, slowSet(o, l...))
		keys := []string{c.key(), c.key(), c.key()}[:c.Intn(4)]
		makes(t, fmt.Sprintf("Drop by chance %q", keys), dropped(keys...), o, slowDrop(o, keys...))
		key := c.key()
		makes(t, fmt.Sprintf("Get by chance %q", key), got(key), o, slowGet(o, key))
		// What was set is there, what was dropped is not.
		if usesD(o.Kind) {
			holds(t, "set", cos.Get(cos.Set(o, entry(key, whole(5))), key), whole(5))
			holds(t, "set to null", cos.Get(cos.Set(o, entry(key, null())), key), null())
			holds(t, "dropped", cos.Get(cos.Drop(o, key), key), null())
		}
	}
}

func TestDrop(t *testing.T) {
	for _, c := range []struct {
		what    string
		o       []api.Entry
		keys    []string
		without []api.Entry
	}{
		{"none of none", nil, nil, nil},
		{"one of none", nil, []string{"A"}, nil},
		{"none", pairs("A", 1, "B", 2), nil, pairs("A", 1, "B", 2)},
		{"the first", pairs("A", 1, "B", 2, "C", 3), []string{"A"}, pairs("B", 2, "C", 3)},
		{"the middle", pairs("A", 1, "B", 2, "C", 3), []string{"B"}, pairs("A", 1, "C", 3)},
		{"the last", pairs("A", 1, "B", 2, "C", 3), []string{"C"}, pairs("A", 1, "B", 2)},
		{"no key", pairs("", 1, "B", 2), []string{""}, pairs("B", 2)},
		{"one that is not there", pairs("A", 1, "B", 2), []string{"C"}, pairs("A", 1, "B", 2)},
		{"one that is near", pairs("A", 1, "B", 2), []string{"a", "AA", "", "A\x00", " A"}, pairs("A", 1, "B", 2)},
		{"one twice", pairs("A", 1, "B", 2), []string{"A", "A"}, pairs("B", 2)},
		{"two", pairs("A", 1, "B", 2, "C", 3), []string{"C", "A"}, pairs("B", 2)},
		{"one there, one not", pairs("A", 1, "B", 2, "C", 3), []string{"Z", "A", "Y"}, pairs("B", 2, "C", 3)},
		{"all", pairs("A", 1, "B", 2, "C", 3), []string{"C", "A", "B"}, nil},
		{"all and more", pairs("A", 1, "B", 2), []string{"C", "A", "B", "A"}, nil},
		{"one that stands twice", pairs("A", 1, "A", 2, "B", 3), []string{"A"}, pairs("B", 3)},
		{"keys that fall", pairs("C", 1, "B", 2, "A", 3), []string{"B"}, pairs("C", 1, "A", 3)},
		{"the key of what is null", pairs("A", 0, "B", 2), []string{"A"}, pairs("B", 2)},
	} {
		makes(t, "Drop, "+c.what, dropped(c.keys...), dict(c.o...), dict(c.without...))
		makes(t, "Drop of a stream, "+c.what, dropped(c.keys...), stream("data", c.o...), stream("data", c.without...))
	}
	inner := dict(entry("A", plain(api.Dict)), entry("B", arr(plain(api.Dict))))
	makes(t, "Drop, not within", dropped("B"), inner, dict(entry("A", plain(api.Dict))))
	makes(t, "Drop, not within", dropped("A"), arr(inner), arr(inner))
}
