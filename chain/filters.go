package chain

import (
	"pressmark/api"
	"pressmark/ascii"
	"pressmark/deflate"
	"pressmark/inflate"
	"pressmark/lzw"
	"pressmark/predict"
	"pressmark/runs"
)

// Filters that can be undone, by their names.
const (
	flateName  = "FlateDecode"
	lzwName    = "LZWDecode"
	hexName    = "ASCIIHexDecode"
	base85Name = "ASCII85Decode"
	runsName   = "RunLengthDecode"
)

// strange tells if a link's filter is none that can be undone.
func (l Link) strange() bool {
	switch l.Name {
	case flateName, lzwName, hexName, base85Name, runsName:
		return false
	}
	return true
}

// differs tells if a link's bytes are differences by its Shape: of other filters it does not count.
func (l Link) differs() bool { return l.Name == flateName || l.Name == lzwName }

// undo is what a link makes of b.
func (l Link) undo(b []byte, most int) ([]byte, api.Errno) {
	b, e := l.unpack(b, most)
	if e != api.OK || !l.differs() {
		return b, e
	}
	return predict.Decode(l.Shape, b)
}

// do is what a link makes b of.
func (l Link) do(b []byte) ([]byte, api.Errno) {
	if l.differs() {
		told, e := predict.Encode(l.Shape, b)
		if e != api.OK {
			return nil, e
		}
		b = told
	}
	return l.pack(b), api.OK
}

// unpack is what a link's filter alone makes of b.
func (l Link) unpack(b []byte, most int) ([]byte, api.Errno) {
	switch l.Name {
	case flateName:
		came, _, e := inflate.Zlib(b, most)
		return came, e
	case lzwName:
		return lzw.Decode(b, most)
	case hexName:
		return ascii.Unhex(b, most)
	case base85Name:
		return ascii.Unbase85(b, most)
	case runsName:
		return runs.Decode(b, most)
	}
	return nil, api.ErrFilter
}

// pack is what a link's filter alone makes b of.
func (l Link) pack(b []byte) []byte {
	switch l.Name {
	case flateName:
		return deflate.Zlib(b)
	case lzwName:
		return lzw.Encode(b)
	case hexName:
		return ascii.Hex(b)
	case base85Name:
		return ascii.Base85(b)
	case runsName:
		return runs.Encode(b)
	}
	return nil
}
