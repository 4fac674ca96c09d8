package be

import (
	"math"
	"testing"
)

// TestPut holds P1.1: the bytes of a number in a width, and none where the width isn't one.
func TestPut(t *testing.T) {
	for _, x := range []struct {
		n     uint64
		width int
		want  string
	}{
		{258, 2, "\x01\x02"}, {258, 1, "\x02"}, {0, 1, "\x00"}, {0, 8, "\x00\x00\x00\x00\x00\x00\x00\x00"},
		{math.MaxUint64, 8, "\xff\xff\xff\xff\xff\xff\xff\xff"}, {0x0102030405060708, 8, "\x01\x02\x03\x04\x05\x06\x07\x08"},
		{0x0102030405060708, 5, "\x04\x05\x06\x07\x08"},
		{7, 0, ""}, {7, 9, ""}, {7, -1, ""}, {7, math.MinInt, ""}, {7, math.MaxInt, ""},
	} {
		if s := Put(x.n, x.width); s != x.want {
			t.Errorf("Put(%d, %d) = %x, not %x", x.n, x.width, s, x.want)
		}
	}
}

// TestGet holds P1.1: the number of bytes; of more than eight that of the last eight.
func TestGet(t *testing.T) {
	for s, want := range map[string]uint64{
		"": 0, "\x00": 0, "\xff": 255, "\x01\x02": 258, "\x00\x00\x05": 5,
		"\xff\xff\xff\xff\xff\xff\xff\xff":         math.MaxUint64,
		"\x09\x01\x02\x03\x04\x05\x06\x07\x08":     0x0102030405060708,
		"\x01\x00\x00\x00\x00\x00\x00\x00\x00":     0,
		"\x01\x02\x03\x00\x00\x00\x00\x00\x00\x00": 0x0300000000000000,
	} {
		if n := Get(s); n != want {
			t.Errorf("Get(%x) = %d, not %d", s, n, want)
		}
	}
}

// TestFits holds P1.2.
func TestFits(t *testing.T) {
	for width := 1; width <= 8; width++ {
		top := uint64(math.MaxUint64) >> (64 - 8*width)
		if !Fits(0, width) || !Fits(top, width) {
			t.Errorf("Fits at the width %d: too narrow", width)
		}
		if width < 8 && Fits(top+1, width) {
			t.Errorf("Fits at the width %d: too wide", width)
		}
	}
	for _, width := range []int{0, 9, -1, -8, math.MinInt, math.MaxInt} {
		if Fits(0, width) {
			t.Errorf("Fits(0, %d)", width)
		}
	}
}

// TestSign holds P1.2.
func TestSign(t *testing.T) {
	for _, x := range []struct {
		n    uint64
		bits int
		want int64
	}{
		{255, 8, -1}, {127, 8, 127}, {128, 8, -128}, {1, 1, -1}, {2, 1, 0}, {0x1ff, 8, -1}, {255, 9, 255},
		{math.MaxUint64, 64, -1}, {1 << 63, 64, math.MinInt64}, {math.MaxInt64, 64, math.MaxInt64}, {1 << 62, 63, -(1 << 62)},
		{1, 0, 0}, {1, 65, 0}, {1, -1, 0}, {1, math.MinInt, 0}, {1, math.MaxInt, 0},
	} {
		if n := Sign(x.n, x.bits); n != x.want {
			t.Errorf("Sign(%d, %d) = %d, not %d", x.n, x.bits, n, x.want)
		}
	}
}

// TestWide holds P1.2.
func TestWide(t *testing.T) {
	for bits := 1; bits <= 64; bits++ {
		low, high := int64(-1)<<(bits-1), ^(int64(-1) << (bits - 1))
		if !Wide(low, bits) || !Wide(high, bits) || !Wide(-1, bits) || !Wide(0, bits) {
			t.Errorf("Wide at %d bits: too narrow", bits)
		}
		if bits < 64 && (Wide(low-1, bits) || Wide(high+1, bits)) {
			t.Errorf("Wide at %d bits: too wide", bits)
		}
	}
	for _, bits := range []int{0, 65, -1, math.MinInt, math.MaxInt} {
		if Wide(0, bits) {
			t.Errorf("Wide(0, %d)", bits)
		}
	}
}

// TestBack holds P1.3: numbers come back, bytes come back, and the order stays.
func TestBack(t *testing.T) {
	numbers := []uint64{0, 1, 2, 127, 128, 255, 256, 65535, 65536, 1 << 31, 1<<32 - 1, 1 << 32, 1 << 56, 1 << 63, math.MaxUint64}
	for width := 1; width <= 8; width++ {
		before := ""
		for _, n := range numbers {
			s := Put(n, width)
			if len(s) != width || Put(Get(s), width) != s {
				t.Errorf("Put(Get(%x), %d) is another text", s, width)
			}
			if !Fits(n, width) {
				continue
			}
			if Get(s) != n || before >= s {
				t.Errorf("Get(Put(%d, %d)) = %d; %x behind %x", n, width, Get(s), s, before)
			}
			before = s
		}
	}
}
