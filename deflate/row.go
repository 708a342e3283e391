package deflate

// widest is the greatest number of bits that one Put takes.
const widest = 16

// size is how many bytes a piece holds.
const size = 256

// Row is bits, one behind the other, of each byte the lowest first. Its zero value is empty.
type Row struct {
	full  *piece     // the last piece that was filled, or nil
	part  [size]byte // the whole bytes behind it
	whole int        // how many whole bytes there are in all
	rest  int        // the bits of the byte that was begun
	many  int        // how many these are: below 8
}

// piece is never changed: a Row that is copied shares it, and goes its own way behind it. (Of a slice both would fill the same spare room.)
type piece struct {
	ahead *piece
	bytes [size]byte
}

// Put writes the lowest width bits of n behind the last one, the lowest first; nothing, if width is not from 1 to 16.
func (r *Row) Put(n, width int) {
	if r == nil || width < 1 || width > widest {
		return
	}
	r.rest |= (n & (1<<width - 1)) << r.many
	r.many += width
	for r.many >= 8 {
		r.fill(byte(r.rest))
		r.rest >>= 8
		r.many -= 8
	}
}

// fill writes a whole byte.
func (r *Row) fill(c byte) {
	r.part[r.whole%size] = c
	r.whole++
	if r.whole%size == 0 {
		r.full = &piece{r.full, r.part}
	}
}

// Align fills the byte that was begun with noughts.
func (r *Row) Align() {
	if r != nil && r.many > 0 {
		r.Put(0, 8-r.many)
	}
}

// Bytes is all that was put, in new memory, the last byte filled with noughts.
func (r *Row) Bytes() []byte {
	if r == nil {
		return nil
	}
	b := make([]byte, r.whole, r.whole+1)
	at := r.whole - r.whole%size
	copy(b[at:], r.part[:])
	for p := r.full; p != nil; p = p.ahead {
		at -= size
		copy(b[at:], p.bytes[:])
	}
	if r.many > 0 {
		b = append(b, byte(r.rest))
	}
	return b
}
