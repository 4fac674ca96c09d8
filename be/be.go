// Package be is layer 1: numbers as bytes, most significant first.
package be

// most is the greatest width.
const most = 8

// right: is it a width?
func right(n int) bool { return n >= 1 && n <= most }

// Put: a number as so many bytes.
func Put(n uint64, width int) string {
	if !right(width) {
		return ""
	}
	var b [most]byte
	for i := range most {
		b[most-1-i] = byte(n >> (8 * i))
	}
	return string(b[most-width:])
}

// Get: the number of bytes.
func Get(s string) uint64 {
	var b [most]byte
	for i := range min(len(s), most) {
		b[most-1-i] = s[len(s)-1-i]
	}
	n := uint64(0)
	for _, x := range b {
		n = n<<8 | uint64(x)
	}
	return n
}

// Fits: has a number room in so many bytes?
func Fits(n uint64, width int) bool { return right(width) && n>>(8*width) == 0 }

// Sign: the lowest bits as a number that may be below 0.
func Sign(n uint64, bits int) int64 {
	if bits < 1 || bits > 64 {
		return 0
	}
	away := 64 - bits
	return int64(n<<away) >> away
}

// Wide: may a number be told by so many bits, and its sign?
func Wide(n int64, bits int) bool {
	return bits >= 1 && bits <= 64 && Sign(uint64(n), bits) == n
}
