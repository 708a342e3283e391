package chain_test

import (
	"testing"

	"pressmark/api"
	"pressmark/chain"
	"pressmark/parse"
)

// FuzzItem asks all of a stream as it stands in a text, as go test -fuzz asks.
func FuzzItem(f *testing.F) {
	for _, s := range []string{
		"1 0 obj<</Length 3/Filter/ASCIIHexDecode>>stream\n41>\nendstream endobj",
		"1 0 obj<</Length 3/Filter[/ASCIIHexDecode/LZWDecode]/DecodeParms[null<</Predictor 12/Columns 2>>]>>stream\n41>\nendstream endobj",
		"1 0 obj<</Length 3/Filter/RunLengthDecode/DecodeParms<</Predictor 2/BitsPerComponent 4/EarlyChange 1>>>>stream\n\xfda\x80\nendstream endobj",
		"1 0 obj<</Length 5/Filter[/ASCII85Decode/FlateDecode]>>stream\nz!<~>\nendstream endobj",
	} {
		f.Add([]byte(s), 9)
	}
	f.Fuzz(func(t *testing.T, b []byte, most int) {
		i, e := parse.New(b, api.MaxDepth).Item()
		if e != api.OK {
			return
		}
		l, fault := slowLinks(i.Obj)
		links(t, "by fuzz", i.Obj, l, fault)
		most = min(most, 1<<20)
		came, fault := slowDecode(i.Obj, most)
		decodes(t, "by fuzz", i.Obj, most, came, fault)
		has(t, "by fuzz", i.Obj, slowHas(i.Obj, "LZWDecode", "FlateDecode"), "LZWDecode", "FlateDecode")
		if fault == api.OK {
			made(t, "by fuzz", came, l...)
		}
	})
}

// FuzzLinks asks Encode of some data by few links.
func FuzzLinks(f *testing.F) {
	f.Add([]byte("abcd"), 0, 12, 1, 2, 3, 1, 1, 1)
	f.Add([]byte("abcd"), 4, 0, 0, 0, 2, 2, 4, 1)
	f.Fuzz(func(t *testing.T, b []byte, n, predictor, colors, columns, m, other, more, wide int) {
		names := append(five(), "DCTDecode")
		at := func(n int) string { return names[uint(n)%6] }
		a, c := shaped(at(n), predictor, colors, columns), shaped(at(m), other, more, wide)
		for _, l := range [][]chain.Link{{a}, {c}, {a, c}, {a, link("ASCII85Decode"), c}} {
			made(t, "by fuzz", string(b), l...)
		}
	})
}
