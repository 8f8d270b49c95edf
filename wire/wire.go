// Package wire is layer 1: see shared/doc/01-wire.md.
package wire

// Within tells whether n bytes from at on end at size at most: P1.2.
func Within(at, n, size uint64) bool {
	// at+n may wrap round; size-n doesn't, once n is known to be at most size.
	return n <= size && at <= size-n
}

// Get tells the number of n bytes: P1.1.
func Get(b []byte, at uint64, n int, big bool) (uint64, bool) {
	if !isWidth(n) || !Within(at, uint64(n), uint64(len(b))) {
		return 0, false
	}
	var v uint64
	for i := range n {
		v |= uint64(b[at+uint64(i)]) << shift(i, n, big)
	}
	return v, true
}

// Put tells a number's n lowest bytes: P1.1.
func Put(v uint64, n int, big bool) []byte {
	if !isWidth(n) {
		return nil
	}
	b := make([]byte, n)
	for i := range n {
		b[i] = byte(v >> shift(i, n, big))
	}
	return b
}

// Fits tells whether a number has no more than n bytes: P1.1.
func Fits(v uint64, n int) bool {
	// Of 8 bytes the shift is by 64, which leaves 0 of every number.
	return isWidth(n) && v>>(8*uint(n)) == 0
}

// isWidth tells whether numbers of n bytes are known.
func isWidth(n int) bool {
	return n == 1 || n == 2 || n == 4 || n == 8
}

// shift tells how many bits of a number of n bytes are below its byte i.
func shift(i, n int, big bool) uint {
	if big {
		return 8 * uint(n-1-i)
	}
	return 8 * uint(i)
}
