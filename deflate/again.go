package deflate

// A row that came before is told by its length and by how far behind it stood, if both are within these.
const (
	shortest = 3
	longest  = 258
	farthest = 64
)

// again is how long the longest row is that stands at a place of b and stood behind it, too, and how far: of several that long the nearest. Noughts, if there is none.
func again(b []byte, at int) (n, far int) {
	most := min(longest, len(b)-at)
	for d := 1; d <= min(farthest, at) && n < most; d++ {
		// Asked first, as it fails most often: a longer row reaches past what was found.
		if b[at-d+n] != b[at+n] {
			continue
		}
		if m := alike(b[at-d:], b[at:at+most]); m > n {
			n, far = m, d
		}
	}
	if n < shortest {
		return 0, 0
	}
	return n, far
}

// alike is how many bytes a and b begin with alike. a is not the shorter one.
func alike(a, b []byte) int {
	for i, c := range b {
		if a[i] != c {
			return i
		}
	}
	return len(b)
}
