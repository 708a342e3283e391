package chain_test

import (
	"fmt"
	"slices"
	"strings"
	"testing"

	"pressmark/api"
	"pressmark/chain"
)

// P14.1

func TestNoStream(t *testing.T) {
	for _, o := range others(api.Stream) {
		links(t, "no stream", o, nil, api.ErrArg)
		o.B, o.D = []byte("41>"), []api.Entry{entry("Filter", name("ASCIIHexDecode"))}
		links(t, "no stream", o, nil, api.ErrArg)
		// Of several faults it is the first.
		o.D = []api.Entry{entry("DecodeParms", whole(1)), entry("Filter", whole(1))}
		links(t, "no stream", o, nil, api.ErrArg)
	}
	for _, kind := range none() {
		links(t, "no stream", api.Obj{Kind: kind}, nil, api.ErrArg)
		links(t, "no stream", api.Obj{Kind: kind, D: filtered("", name("LZWDecode")).D}, nil, api.ErrArg)
	}
}

func TestNoFilter(t *testing.T) {
	for _, data := range []string{"", "41>", "\x80"} {
		links(t, "no key", stream(data), nil, api.OK)
		links(t, "other keys", stream(data, entry("", name("LZWDecode")), entry("F", name("LZWDecode")), entry("FFilter", name("LZWDecode")), entry("Filte", name("LZWDecode")), entry("Filter\x00", name("LZWDecode")), entry("Filters", whole(1)), entry("filter", whole(1))), nil, api.OK)
		links(t, "in another dictionary", stream(data, entry("K", dict(entry("Filter", name("LZWDecode"))))), nil, api.OK)
	}
	for _, kind := range none() {
		links(t, "as Null", filtered("41>", sample(kind)), nil, api.OK)
		links(t, "as Null", parted("41>", sample(kind), whole(1)), nil, api.OK)
	}
	// Without a filter what is told does not count.
	for _, o := range append(others(), dict(), arr(), ints("Predictor", 3), ints("EarlyChange", 0), arr(ints("Predictor", 3)), arr(dict(), dict()), nested(arr(), 30)) {
		links(t, "told of no filter", stream("a", entry("DecodeParms", o)), nil, api.OK)
	}
}

func TestOneName(t *testing.T) {
	for _, s := range append(five(), strange()...) {
		links(t, "a name", filtered("a", name(s)), linked(s), api.OK)
		links(t, "a name in an array", filtered("a", names(s)), linked(s), api.OK)
	}
	links(t, "fields that do not count", api.Obj{Kind: api.Stream, N: 7, L: names("X").L, D: []api.Entry{entry("Filter", api.Obj{Kind: api.Name, N: 7, B: []byte("LZWDecode"), L: names("X").L, D: ints("Predictor", 3).D})}}, linked("LZWDecode"), api.OK)
	for _, o := range others(api.Name, api.Arr) {
		links(t, "a filter of another kind", filtered("a", o), nil, api.ErrForm)
		links(t, "a filter of another kind", parted("a", o, dict()), nil, api.ErrForm)
		links(t, "a filter of another kind", parted("a", o, arr()), nil, api.ErrForm)
	}
}

func TestKeysTwice(t *testing.T) {
	links(t, "the first", stream("a", entry("Filter", name("A")), entry("Filter", name("B")), entry("Filter", whole(1))), linked("A"), api.OK)
	links(t, "the first", stream("a", entry("Filter", whole(1)), entry("Filter", name("B"))), nil, api.ErrForm)
	links(t, "the first", stream("a", entry("Filter", api.Obj{}), entry("Filter", name("B"))), nil, api.OK)
	links(t, "the first", stream("a", entry("Z", whole(1)), entry("Filter", name("A")), entry("DecodeParms", ints("Columns", 2)), entry("A", whole(1)), entry("DecodeParms", whole(2))), []chain.Link{shaped("A", 1, 1, 2)}, api.OK)
	links(t, "the first", stream("a", entry("Filter", name("A")), entry("DecodeParms", whole(1)), entry("DecodeParms", dict())), nil, api.ErrForm)
	links(t, "the first", parted("a", name("A"), ints("Columns", 3, "Columns", 0, "Predictor", 2, "Colors", 4, "Colors", 5, "Predictor", 3, "EarlyChange", 1, "EarlyChange", 0, "BitsPerComponent", 8, "BitsPerComponent", 9)), []chain.Link{shaped("A", 2, 4, 3)}, api.OK)
	for _, key := range []string{"Predictor", "Colors", "Columns", "EarlyChange"} {
		links(t, "the first", parted("a", name("A"), ints(key, 0, key, 1)), nil, api.ErrForm)
		links(t, "the first", parted("a", name("A"), dict(entry(key, api.Obj{}), entry(key, whole(0)))), linked("A"), api.OK)
	}
}

func TestManyNames(t *testing.T) {
	for n := range 12 {
		want, fault := linked(many(n)...), api.OK
		if n > 8 {
			want, fault = nil, api.ErrForm
		}
		links(t, fmt.Sprint(n, " names"), filtered("a", names(many(n)...)), want, fault)
		links(t, fmt.Sprint(n, " names, Nulls"), parted("a", names(many(n)...), arr(make([]api.Obj, n)...)), want, fault)
		dicts := arr(repeated(n, func(i int) api.Obj { return ints("Columns", i+1) })...)
		wide := slices.Clone(want)
		for i := range wide {
			wide[i].Columns = i + 1
		}
		links(t, fmt.Sprint(n, " names, Dicts"), parted("a", names(many(n)...), dicts), wide, fault)
	}
	links(t, "a name many times", filtered("a", names("B", "A", "B", "B", "A", "", "C", "A")), linked("B", "A", "B", "B", "A", "", "C", "A"), api.OK)
	links(t, "very many names", filtered("a", names(many(10000)...)), nil, api.ErrForm)
}

func TestItemOfAnotherKind(t *testing.T) {
	wrong := others(api.Name)
	for _, kind := range none() {
		wrong = append(wrong, sample(kind))
	}
	for n := 1; n <= 9; n++ {
		for i := range n {
			for _, o := range wrong {
				l := names(many(n)...)
				l.L[i] = o
				links(t, fmt.Sprint("item ", i, " of ", n), filtered("a", l), nil, api.ErrForm)
				if n < 3 {
					links(t, fmt.Sprint("item ", i, " of ", n), parted("a", l, arr(make([]api.Obj, n)...)), nil, api.ErrForm)
				}
			}
		}
	}
	links(t, "an array in an array", filtered("a", arr(names("LZWDecode"))), nil, api.ErrForm)
}

func TestParmsOfOneName(t *testing.T) {
	for _, s := range append(five(), "DCTDecode", "") {
		links(t, "a Dict", parted("a", name(s), dict()), linked(s), api.OK)
		links(t, "a Dict", parted("a", name(s), ints("Columns", 9, "Predictor", 12)), []chain.Link{shaped(s, 12, 1, 9)}, api.OK)
		links(t, "a Dict that may not be", parted("a", name(s), ints("Columns", 0)), nil, api.ErrForm)
		for _, kind := range none() {
			links(t, "as Null", parted("a", name(s), sample(kind)), linked(s), api.OK)
		}
		for _, o := range append(others(api.Dict), arr(), arr(dict()), arr(api.Obj{}), stream("")) {
			links(t, "of another kind", parted("a", name(s), o), nil, api.ErrForm)
		}
	}
	// By its key.
	for _, key := range []string{"", "DP", "DecodeParm", "DecodeParmsX", "decodeparms", "Decodeparms", "FDecodeParms"} {
		links(t, "another key", stream("a", entry("Filter", name("A")), entry(key, ints("Columns", 0))), linked("A"), api.OK)
		links(t, "another key", stream("a", entry("Filter", name("A")), entry(key, whole(1))), linked("A"), api.OK)
	}
}

func TestParmsOfAnArray(t *testing.T) {
	dicts := func(n int) api.Obj { return arr(repeated(n, func(int) api.Obj { return dict() })...) }
	for n := range 9 {
		l := many(n)
		for told := range 12 {
			want, fault := linked(l...), api.OK
			if told != n {
				want, fault = nil, api.ErrForm
			}
			links(t, fmt.Sprint(n, " and ", told), parted("a", names(l...), dicts(told)), want, fault)
			links(t, fmt.Sprint(n, " and Nulls ", told), parted("a", names(l...), arr(make([]api.Obj, told)...)), want, fault)
		}
		for _, kind := range none() {
			links(t, "as Null", parted("a", names(l...), sample(kind)), linked(l...), api.OK)
		}
		for _, o := range others(api.Arr) {
			links(t, fmt.Sprint(n, " names, another kind"), parted("a", names(l...), o), nil, api.ErrForm)
		}
		links(t, fmt.Sprint(n, " names, a Dict"), parted("a", names(l...), dict()), nil, api.ErrForm)
	}
}

func TestItemsOfParms(t *testing.T) {
	for n := 1; n <= 8; n++ {
		l := names(many(n)...)
		for i := range n {
			parms := arr(make([]api.Obj, n)...)
			parms.L[i] = ints("Colors", 3, "Columns", 5, "Predictor", 2)
			want := linked(many(n)...)
			want[i] = shaped(many(n)[i], 2, 3, 5)
			links(t, fmt.Sprint("Dict ", i), parted("a", l, parms), want, api.OK)
			for _, kind := range none() {
				parms.L[i] = sample(kind)
				links(t, fmt.Sprint("as Null, ", i), parted("a", l, parms), linked(many(n)...), api.OK)
			}
			for _, o := range append(others(api.Dict), stream("")) {
				parms.L[i] = o
				links(t, fmt.Sprint("another kind, ", i), parted("a", l, parms), nil, api.ErrForm)
			}
			for _, o := range []api.Obj{ints("Predictor", 3), ints("Colors", 5), ints("Columns", 0), ints("EarlyChange", 0), ints("BitsPerComponent", 4, "Predictor", 2), dict(entry("Colors", num(api.Real, 1)))} {
				parms.L[i] = o
				links(t, fmt.Sprint("may not be, ", i), parted("a", l, parms), nil, api.ErrForm)
			}
		}
	}
	// Each pair of Null and a Dict.
	for mask := range 1 << 8 {
		parms, want := arr(make([]api.Obj, 8)...), linked(many(8)...)
		for i := range 8 {
			if mask>>i&1 == 1 {
				parms.L[i] = ints("Columns", 10*i+2, "Predictor", 10+i%6)
				want[i] = shaped(many(8)[i], 10+i%6, 1, 10*i+2)
			}
		}
		links(t, fmt.Sprint("Nulls and Dicts ", mask), parted("a", names(many(8)...), parms), want, api.OK)
	}
}

// tells asks what Links makes of what is told of one link, alone and in an array.
func tells(t *testing.T, what string, parms api.Obj, want chain.Link, fault api.Errno) {
	t.Helper()
	for _, s := range append(five(), "DCTDecode") {
		want.Name = s
		one, both := []chain.Link{want}, []chain.Link{link("A"), want, link("A")}
		if fault != api.OK {
			one, both = nil, nil
		}
		links(t, what, parted("a", name(s), parms), one, fault)
		links(t, what, parted("a", names("A", s, "A"), arr(dict(), parms, api.Obj{})), both, fault)
	}
}

func TestNumbers(t *testing.T) {
	tells(t, "none", dict(), link(""), api.OK)
	for _, n := range []int{-1 << 31, -100, -2, -1, 0, 1, 2, 3, 4, 5, 6, 7, 8, 9, 10, 11, 12, 13, 14, 15, 16, 17, 100, 255, 256, 4095, 4096, 4097, 65537, 1<<31 - 1, 1<<32 + 1, 1 << 32, -1 << 63, 1<<63 - 1} {
		for key, l := range map[string]chain.Link{"Predictor": shaped("", n, 1, 1), "Colors": shaped("", 1, n, 1), "Columns": shaped("", 1, 1, n), "EarlyChange": {Shape: plain, Early: n}} {
			fault := api.OK
			if !slowMay(l.Shape) || l.Early != 1 {
				fault = api.ErrForm
			}
			tells(t, fmt.Sprint(key, " ", n), ints(key, n), l, fault)
		}
	}
	tells(t, "all", ints("BitsPerComponent", 8, "Colors", 2, "Columns", 3, "EarlyChange", 1, "Predictor", 15), shaped("", 15, 2, 3), api.OK)
	tells(t, "all, the greatest", ints("BitsPerComponent", 8, "Colors", 4, "Columns", 4096, "EarlyChange", 1, "Predictor", 15), shaped("", 15, 4, 4096), api.OK)
	tells(t, "not by rising keys", ints("Predictor", 15, "EarlyChange", 1, "Columns", 3, "Colors", 2, "BitsPerComponent", 8), shaped("", 15, 2, 3), api.OK)
	// A Shape that may not be is refused, whatever the Predictor.
	for _, predictor := range []int{1, 2, 10, 15} {
		tells(t, "Colors 5", ints("Colors", 5, "Predictor", predictor), chain.Link{}, api.ErrForm)
		tells(t, "Columns 4097", ints("Columns", 4097, "Predictor", predictor), chain.Link{}, api.ErrForm)
		tells(t, "EarlyChange 0", ints("EarlyChange", 0, "Predictor", predictor), chain.Link{}, api.ErrForm)
		tells(t, "EarlyChange 2", ints("EarlyChange", 2, "Predictor", predictor), chain.Link{}, api.ErrForm)
	}
}

func TestNumbersOfAnotherKind(t *testing.T) {
	for _, key := range []string{"Predictor", "Colors", "Columns", "EarlyChange"} {
		for _, o := range append(others(api.Int), num(api.Real, 100000), name("1"), text(api.Str, "1"), arr(whole(1))) {
			// Its number is no matter.
			tells(t, key+" of another kind", dict(entry(key, o)), chain.Link{}, api.ErrForm)
			tells(t, key+" of another kind, others as they may be", dict(append(ints("BitsPerComponent", 8, "Colors", 1, "Columns", 1, "EarlyChange", 1, "Predictor", 1).D, entry("K", o))...), link(""), api.OK)
		}
		for _, kind := range none() {
			tells(t, key+" as Null", dict(entry(key, sample(kind))), link(""), api.OK)
		}
		tells(t, key+" with fields that do not count", dict(entry(key, api.Obj{Kind: api.Int, N: 1, B: []byte("9"), L: []api.Obj{whole(9)}, D: ints(key, 9).D})), link(""), api.OK)
	}
}

func TestBits(t *testing.T) {
	eight := func(o api.Obj) api.Entry { return entry("BitsPerComponent", o) }
	tells(t, "8 bits", dict(eight(whole(8))), link(""), api.OK)
	for _, predictor := range []int{1, 2, 10, 11, 12, 13, 14, 15} {
		tells(t, "8 bits", dict(eight(whole(8)), entry("Predictor", whole(int64(predictor)))), shaped("", predictor, 1, 1), api.OK)
	}
	var wrong []api.Obj
	for _, n := range []int64{-8, 0, 1, 2, 4, 7, 9, 16, 800000, 1<<32 + 8, 1<<63 - 1} {
		wrong = append(wrong, whole(n))
	}
	for kind := api.Bool; kind <= api.Ref; kind++ {
		if kind != api.Int {
			wrong = append(wrong, num(kind, 8), sample(kind))
		}
	}
	for _, o := range append(wrong, num(api.Real, 800000), text(api.Str, "8"), name("8"), text(api.Str, "\x08")) {
		tells(t, "other bits, no Predictor", dict(eight(o)), link(""), api.OK)
		tells(t, "other bits, Predictor 1", dict(eight(o), entry("Predictor", whole(1))), link(""), api.OK)
		tells(t, "other bits, Predictor as Null", dict(eight(o), entry("Predictor", api.Obj{})), link(""), api.OK)
		for _, predictor := range []int{2, 10, 11, 12, 13, 14, 15} {
			tells(t, "other bits", dict(eight(o), entry("Predictor", whole(int64(predictor)))), chain.Link{}, api.ErrForm)
		}
	}
	for _, kind := range none() {
		tells(t, "bits as Null", dict(eight(sample(kind)), entry("Predictor", whole(12))), shaped("", 12, 1, 1), api.OK)
	}
	tells(t, "bits as Null, 8 behind", dict(eight(api.Obj{}), eight(whole(4)), entry("Predictor", whole(12))), shaped("", 12, 1, 1), api.OK)
}

func TestOtherKeys(t *testing.T) {
	for _, key := range []string{"", "K", "Predicto", "Predictors", "predictor", "Color", "ColorTransform", "columns", "Column", "EarlyChang", "Early", "BitsPerComponents", "BPC", "Rows", "BlackIs1", "Name", "Type", "Filter", "DecodeParms"} {
		for _, o := range append(others(), whole(0), whole(-1), whole(5000), ints("Predictor", 3), nested(arr(), 100)) {
			tells(t, "the key "+key, dict(entry(key, o)), link(""), api.OK)
			tells(t, "the key "+key, dict(entry("Columns", whole(2)), entry(key, o), entry("Predictor", whole(2))), shaped("", 2, 1, 2), api.OK)
		}
	}
}

func TestLinksByChance(t *testing.T) {
	c := newChance(141)
	good := 0
	for range 30000 {
		o := stream("41>", entry("DecodeParms", c.object(2)), entry("Filter", c.object(2)))
		if c.Intn(2) == 0 {
			o = c.spoilt(stream("41>"))
		}
		want, fault := slowLinks(o)
		if fault == api.OK && len(want) > 0 {
			good++
		}
		links(t, "by chance", o, want, fault)
	}
	if good < 1000 {
		t.Errorf("no more than %d have links", good)
	}
}

// R1: what is deep or long comes to an end.

func TestLongLinks(t *testing.T) {
	deep := nested(whole(1), 200001)
	for _, o := range []api.Obj{filtered("", deep), parted("", name("A"), deep), parted("", names("A"), arr(deep)), parted("", name("A"), dict(entry("Colors", deep)))} {
		if l, e := chain.Links(o); e != api.ErrForm || len(l) > 0 {
			t.Errorf("deep: %v, %v", l, e)
		}
	}
	if l, e := chain.Links(parted("", name("A"), dict(entry("K", deep)))); e != api.OK || !slices.Equal(l, linked("A")) {
		t.Errorf("deep, another key: %v, %v", l, e)
	}
	long := dict(repeated(200000, func(i int) api.Entry { return entry(fmt.Sprint("K", i), whole(1)) })...)
	long.D = append(long.D, entry("Predictor", whole(2)))
	for _, o := range []api.Obj{parted("", name("A"), long), parted("", names("A"), arr(long))} {
		if l, e := chain.Links(o); e != api.OK || !slices.Equal(l, []chain.Link{shaped("A", 2, 1, 1)}) {
			t.Errorf("long: %v, %v", l, e)
		}
	}
	s := strings.Repeat("A", 1<<20)
	links(t, "a long name", filtered("", name(s)), linked(s), api.OK)
}
