package predict

// rows are bytes as they are, one row behind the other. Of each place what stands ahead of it has to be known, no more.
type rows struct {
	b             []byte
	width, colors int
}

// rules are what is expected at a place, by a row's tag.
func (r rows) rules() [mostTag + 1]func(at int) byte {
	return [...]func(at int) byte{r.nothing, r.left, r.above, r.half, r.nearest}
}

// nothing is expected: a byte stands as it is.
func (r rows) nothing(int) byte { return 0 }

// left is the byte of the same colour, one column ahead.
func (r rows) left(at int) byte {
	if at%r.width < r.colors {
		return 0
	}
	return r.b[at-r.colors]
}

// above is the byte at the same place in the row ahead.
func (r rows) above(at int) byte {
	if at < r.width {
		return 0
	}
	return r.b[at-r.width]
}

// beyond is what is left of above.
func (r rows) beyond(at int) byte {
	if at < r.width {
		return 0
	}
	return r.left(at - r.width)
}

// half is half of left and above together.
func (r rows) half(at int) byte {
	return byte((int(r.left(at)) + int(r.above(at))) / 2)
}

// nearest is Paeth's: the one of left, above and beyond that is nearest to where left and above together lead from beyond.
func (r rows) nearest(at int) byte {
	left, above, beyond := int(r.left(at)), int(r.above(at)), int(r.beyond(at))
	aim := left + above - beyond
	near := left
	for _, c := range [...]int{above, beyond} {
		// Of equal ones the first named stays.
		if apart(c, aim) < apart(near, aim) {
			near = c
		}
	}
	return byte(near)
}

// apart is how far a and b are from each other.
func apart(a, b int) int { return max(a-b, b-a) }
