// Package be is layer 1: numbers as bytes, most significant first.
package be

// width is the greatest width.
const width = 8

// right: is it a width?
func right(n int) bool { return n >= 1 && n <= width }

// Put: a number as so many bytes.
func Put(n uint64, w int) string {
	if !right(w) {
		return ""
	}
	var b [width]byte
	for i := range width {
		b[width-1-i] = byte(n >> (8 * i))
	}
	return string(b[width-w:])
}

// Get: the number of bytes.
func Get(s string) uint64 {
	var b [width]byte
	for i := range min(len(s), width) {
		b[width-1-i] = s[len(s)-1-i]
	}
	n := uint64(0)
	for _, x := range b {
		n = n<<8 | uint64(x)
	}
	return n
}

// Fits: has a number room in so many bytes?
func Fits(n uint64, w int) bool { return right(w) && n>>(8*w) == 0 }

// Sign: the lowest bits as a number that may be below 0.
func Sign(n uint64, bits int) int64 {
	if bits < 1 || bits > 64 {
		return 0
	}
	away := 64 - bits
	return int64(n<<away) >> away
}

// Wide: may a number be told by so many bits, and its sign?
func Wide(n int64, bits int) bool {
	return bits >= 1 && bits <= 64 && Sign(uint64(n), bits) == n
}
