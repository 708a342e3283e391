package print_test

import (
	"bytes"
	"fmt"
	"slices"
	"strings"
	"testing"

	"pressmark/api"
	"pressmark/cos"
	"pressmark/parse"
	"pressmark/print"
)

// P13.3: what is printed is parsed as it was.

// valueBack asks that what Value prints is parsed as it was, and printed again is the same.
func valueBack(t *testing.T, o api.Obj) {
	t.Helper()
	b, e := print.Value(o)
	if e != api.OK {
		t.Errorf("%s: %v", short(slowValue(o)), e)
		return
	}
	came, e := parse.All(b, api.MaxDepth)
	if e != api.OK || !cos.Same(came, o) || !cos.May(came) {
		t.Errorf("%s is parsed as %s, %v", short(string(b)), short(slowValue(came)), e)
	}
	if again, e := print.Value(came); e != api.OK || !bytes.Equal(again, b) {
		t.Errorf("%s, printed again %s, %v", short(string(b)), short(string(again)), e)
	}
	// As deep as it is, and no deeper, is enough.
	if _, e = parse.All(b, cos.Depth(o)); e != api.OK {
		t.Errorf("%s, depth %d: %v", short(string(b)), cos.Depth(o), e)
	}
}

// itemBack asks the same of Item; what stands behind it does not count.
func itemBack(t *testing.T, n int, o api.Obj) {
	t.Helper()
	b, e := print.Item(api.Item{Num: n, Obj: o})
	if e != api.OK {
		t.Errorf("number %d: %v", n, e)
		return
	}
	for _, behind := range []string{"", "1 0 obj", "endobj", "R"} {
		p := parse.New(append(slices.Clone(b), behind...), api.MaxDepth)
		came, e := p.Item()
		if e != api.OK || came.Num != n || !cos.Same(came.Obj, o) || !cos.May(came.Obj) || p.At() != len(b)-1 {
			t.Errorf("%s is parsed as number %d, %v, up to %d", short(string(b)), came.Num, e, p.At())
		}
		if again, e := print.Item(came); e != api.OK || !bytes.Equal(again, b) {
			t.Errorf("%s, printed again: %v", short(string(b)), e)
		}
	}
}

func TestGoodBack(t *testing.T) {
	for i, o := range good() {
		valueBack(t, o)
		itemBack(t, i+1, o)
	}
	for i, o := range streams() {
		itemBack(t, 8388607-i, o)
	}
	itemBack(t, 1, stream(strings.Repeat("\nendstream\n\r \x00", 100000)))
}

func TestEachByteBack(t *testing.T) {
	for c := range 256 {
		for _, s := range []string{"%s", "a%s", "%sa", "%s1", "#%s", "%s%[1]s", "(%s)", "\\%s"} {
			s = strings.ReplaceAll(fmt.Sprintf(s, string([]byte{byte(c)})), "\x00", "")
			o := text(api.Str, s+"\x00")
			valueBack(t, o)
			valueBack(t, text(api.Str, s))
			valueBack(t, text(api.Name, s))
			valueBack(t, arr(text(api.Name, s), whole(1), text(api.Str, s), text(api.Name, s), dict(entry(s, text(api.Name, s)), entry(s+"a", o))))
			itemBack(t, 1, stream(s, entry(s, text(api.Name, s))))
		}
	}
}

func TestSideBySideBack(t *testing.T) {
	// Any three in a row stay three: numbers make no Ref, names and words no longer ones.
	l := []api.Obj{{}, num(api.Bool, 1), whole(0), whole(1), whole(-1), num(api.Real, 0), num(api.Real, -50000), ref(1), text(api.Str, ""), text(api.Str, "R"), text(api.Str, "("), text(api.Name, ""), text(api.Name, "R"), text(api.Name, "<"), arr(), dict(), arr(whole(1)), dict(entry("R", whole(0)))}
	for _, a := range l {
		for _, b := range l {
			for _, c := range l {
				valueBack(t, arr(a, b, c))
				if a.Kind != api.Null && b.Kind != api.Null && c.Kind != api.Null {
					valueBack(t, dict(entry("", a), entry("0", b), entry("R", c)))
				}
			}
		}
	}
}

func TestBackByChance(t *testing.T) {
	c := newChance(134)
	for range 10000 {
		valueBack(t, c.object(5))
		itemBack(t, 1+c.Intn(8388607), c.object(4))
		itemBack(t, 1+c.Intn(8388607), c.stream(4))
	}
}

func FuzzBack(f *testing.F) {
	for _, s := range []string{"[1 0 R 2 0 null]", "<</A [1 1.5 /x#20y]/B <6129>>>", "7 0 obj<</Length 3>>stream\nabc\nendstream endobj", "(\\(\n)", "-2147483647.99999"} {
		f.Add([]byte(s))
	}
	f.Fuzz(func(t *testing.T, b []byte) {
		// What can be read can be printed.
		if o, e := parse.All(b, api.MaxDepth); e == api.OK {
			valueBack(t, o)
			holds(t, "a value that was read", value(o), came(slowValue(o)))
		}
		if i, e := parse.New(b, api.MaxDepth).Item(); e == api.OK {
			itemBack(t, i.Num, i.Obj)
			holds(t, "an item that was read", item(i.Num, i.Obj), came(slowItem(i.Num, i.Obj)))
		}
		holds(t, "a name", name(string(b)), came(slowName(string(b))))
		holds(t, "a text", texted(string(b)), came(slowText(string(b))))
	})
}
