package tag

import (
	"math"
	"strings"
	"testing"

	"tillroll/api"
	"tillroll/be"
	"tillroll/poly"
)

var table = poly.Make()

func many(s string, n int) string { return strings.Repeat(s, n) }

var right = []Tag{
	{Data, 0, 0, 0, 1}, {Head, 0, 5, 0, 1}, {Table, 65535, math.MaxUint64, 254, 255}, {Data, 258, 1 << 40, 3, 4},
}

var wrong = []Tag{
	{}, {0, 0, 0, 0, 1}, {4, 0, 0, 0, 1}, {255, 0, 0, 0, 1}, {Data, -1, 0, 0, 1}, {Data, 65536, 0, 0, 1}, {Data, 0, 0, 0, 0},
	{Data, 0, 0, 0, 256}, {Data, 0, 0, -1, 1}, {Data, 0, 0, 1, 1}, {Data, 0, 0, 255, 256}, {Data, math.MinInt, 0, 0, 1}, {Data, 0, 0, math.MinInt, math.MaxInt},
}

// TestRight holds P6.1.
func TestRight(t *testing.T) {
	for _, x := range right {
		if !x.Right() {
			t.Errorf("%v may not be", x)
		}
	}
	for _, x := range wrong {
		if s, err := Frame(&table, x, "abc"); x.Right() || s != "" || err != api.ErrArg {
			t.Errorf("%v may be: %x, %d", x, s, err)
		}
	}
}

// TestFrame holds P6.1: the bytes beside a page.
func TestFrame(t *testing.T) {
	data := many("d", 32)
	s, err := Frame(&table, Tag{Head, 0, 5, 0, 1}, data)
	head := "\xff\x02\x00\x00\x00\x00\x00\x00\x00\x00\x00\x05\x00\x01" + many("\x00", 14)
	if want := head + be.Put(uint64(table.Sum(data+head)), 4); s != want || err != api.OK {
		t.Errorf("Frame = %x, %d", s, err)
	}
	s, _ = Frame(&table, Tag{Data, 258, 0x0102030405060708, 3, 4}, data)
	if !strings.HasPrefix(s, "\xff\x01\x01\x02\x01\x02\x03\x04\x05\x06\x07\x08\x03\x04"+many("\x00", 14)) || len(s) != api.Spare {
		t.Errorf("Frame = %x", s)
	}
	if s, err := Frame(nil, Tag{}, data); s != "" || err != api.ErrNil {
		t.Errorf("no table: %x, %d", s, err)
	}
}

// TestParse holds P6.1 and P6.3: a tag comes back, and with one byte another one it is told that it is none.
func TestParse(t *testing.T) {
	data := many("\x00\xff7", 11)
	for _, x := range right {
		s, _ := Frame(&table, x, data)
		if y, err := Parse(&table, data, s); y != x || err != api.OK {
			t.Errorf("Parse of Frame of %v = %v, %d", x, y, err)
		}
		for i := range len(s) + len(data) {
			for _, flip := range []byte{1, 0x80, 0xff, 0x10} {
				b := []byte(data + s)
				b[i] ^= flip
				y, err := Parse(&table, string(b[:len(data)]), string(b[len(data):]))
				if y != (Tag{}) || err != api.ErrForm && err != api.ErrSum {
					t.Errorf("byte %d of %v: %v, %d", i, x, y, err)
				}
			}
		}
	}
}

// TestNoTag holds P6.1: what is told of bytes that are no tag's.
func TestNoTag(t *testing.T) {
	data := many("a", 32)
	s, _ := Frame(&table, right[0], data)
	other := func(i int, b string) string { return s[:i] + b + s[i+len(b):] }
	for i, x := range []struct {
		beside string
		want   api.Errno
	}{
		{"", api.ErrForm}, {s[:31], api.ErrForm}, {s + "\x00", api.ErrForm}, {other(0, "\x00"), api.ErrForm}, {other(1, "\x00"), api.ErrForm},
		{other(1, "\x04"), api.ErrForm}, {other(12, "\x01"), api.ErrForm}, {other(13, "\x00"), api.ErrForm}, {other(14, "\x01"), api.ErrForm},
		{other(27, "\x01"), api.ErrForm}, {other(1, "\x02"), api.ErrSum}, {other(2, "\x01"), api.ErrSum}, {other(13, "\x02"), api.ErrSum},
		{other(28, "\x00\x00\x00\x00"), api.ErrSum}, {many("\xff", 32), api.ErrForm}, {many("\x00", 32), api.ErrForm}, {"\x00" + many("\xff", 31), api.ErrForm},
	} {
		if y, err := Parse(&table, data, x.beside); y != (Tag{}) || err != x.want {
			t.Errorf("%d: %v, %d, not %d", i, y, err, x.want)
		}
	}
	if y, err := Parse(nil, data, ""); y != (Tag{}) || err != api.ErrNil {
		t.Errorf("no table: %v, %d", y, err)
	}
	if _, err := Parse(&table, data+"a", s); err != api.ErrSum {
		t.Errorf("more data: %d", err)
	}
}

// TestBlank holds P6.2 and P6.3.
func TestBlank(t *testing.T) {
	ff, fe, zero := many("\xff", 32), many("\xff", 20)+"\xfe"+many("\xff", 11), many("\x00", 32)
	for i, x := range []struct {
		data, beside   string
		blank, factory bool
	}{
		{ff, ff, true, false}, {"", "", true, false}, {ff, fe, false, false}, {fe, ff, false, false}, {ff, "\x00" + ff[1:], false, true},
		{ff, "\xfe" + ff[1:], false, true}, {zero, zero, false, true}, {ff, ff[1:], true, false}, {ff, "\x00", false, false}, {ff, zero + "\x00", false, false},
		{"\x80" + ff, ff, false, false},
	} {
		if Blank(x.data, x.beside) != x.blank || Factory(x.beside) != x.factory {
			t.Errorf("%d: blank %v, factory %v", i, Blank(x.data, x.beside), Factory(x.beside))
		}
	}
}
