package poly

import (
	"strings"
	"testing"
)

// slow is a state behind bytes, bit by bit, as the chapter's words say it.
func slow(state uint32, s string) uint32 {
	for i := 0; i < len(s); i++ {
		for bit := 7; bit >= 0; bit-- {
			x := state>>31 ^ uint32(s[i]>>bit&1)
			state <<= 1
			if x == 1 {
				state ^= 0x04C11DB7
			}
		}
	}
	return state
}

// TestTable holds P2.1: each place, and the check of bytes.
func TestTable(t *testing.T) {
	p := Make()
	for b := range 256 {
		if want := slow(0, string([]byte{byte(b)})); p[b] != want {
			t.Errorf("the table has %08x at %d, not %08x", p[b], b, want)
		}
	}
	if n := p.Sum("123456789"); n != 0xFC891918 {
		t.Errorf("Sum = %08x", n)
	}
	if First() != 0xffffffff || Last(0) != 0xffffffff || Last(0x12345678) != 0xedcba987 || p.Sum("") != 0 {
		t.Errorf("First %08x, Last(0) %08x, Sum of nothing %08x", First(), Last(0), p.Sum(""))
	}
	for _, s := range []string{"", "\x00", "\xff", "a", "\x80\x00\x01", strings.Repeat("\xff", 1056)} {
		for _, state := range []uint32{0, 1, 0xffffffff, 0x80000000, 0xdeadbeef} {
			if p.More(state, s) != slow(state, s) {
				t.Errorf("More(%08x, %x)", state, s)
			}
		}
		if p.Sum(s) != ^slow(0xffffffff, s) {
			t.Errorf("Sum(%x)", s)
		}
	}
}

// TestNone holds P2.1 of a nil table, and that one that isn't Make's ends.
func TestNone(t *testing.T) {
	var p *Table
	if p.More(7, "abc") != 7 || p.Sum("abc") != 0 {
		t.Error("a nil table")
	}
	(&Table{}).Sum("abc")
	if a, b := Make(), Make(); a != b {
		t.Error("two tables differ")
	}
}

// TestParts holds P2.2: bytes in parts, and texts that differ in bits near each other.
func TestParts(t *testing.T) {
	p := Make()
	text := "the bytes of a page, and those beside it"
	for i := range len(text) + 1 {
		if Last(p.More(p.More(First(), text[:i]), text[i:])) != p.Sum(text) {
			t.Errorf("cut at %d", i)
		}
	}
	for at := 0; at+32 <= 8*len(text); at += 5 {
		for _, burst := range []uint32{1, 1 << 31, 1<<31 | 1, 0xffffffff, 0x80000401} {
			b := []byte(text)
			for i := range 32 {
				b[(at+i)/8] ^= byte(burst>>(31-i)&1) << (7 - (at+i)%8)
			}
			if p.Sum(string(b)) == p.Sum(text) {
				t.Errorf("bits %08x at %d don't show", burst, at)
			}
		}
	}
}
