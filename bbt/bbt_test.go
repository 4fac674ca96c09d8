package bbt

import (
	"math"
	"slices"
	"strings"
	"testing"

	"tillroll/api"
)

func table(t *testing.T, blocks int, bad ...int) Table {
	t.Helper()
	x, err := New(blocks)
	for _, b := range bad {
		if err == api.OK {
			x, err = x.With(b)
		}
	}
	if err != api.OK {
		t.Fatalf("a table of %d blocks with %v: %d", blocks, bad, err)
	}
	return x
}

// TestNew holds P9.1.
func TestNew(t *testing.T) {
	for _, n := range []int{1, 2, 8, 9, 256} {
		x := table(t, n)
		if x.Version() != 0 || x.Blocks() != n || len(x.List()) != 0 {
			t.Errorf("of %d blocks: %v", n, x)
		}
	}
	for _, n := range []int{0, -1, 257, math.MinInt, math.MaxInt} {
		if x, err := New(n); x != (Table{}) || err != api.ErrArg {
			t.Errorf("New(%d): %v, %d", n, x, err)
		}
	}
	var zero Table
	if zero.Version() != 0 || zero.Blocks() != 0 || zero.Has(0) || len(zero.List()) != 0 {
		t.Error("the zero table")
	}
}

// TestWith holds P9.2: another table is told, and the one that it came of stays.
func TestWith(t *testing.T) {
	a := table(t, 10, 9)
	b := table(t, 10, 9, 0)
	c := table(t, 10, 9, 0, 0)
	a2, _ := a.With(3)
	for i, x := range []struct {
		t       Table
		version uint64
		bad     []int
	}{{a, 1, []int{9}}, {b, 2, []int{0, 9}}, {c, 3, []int{0, 9}}, {a2, 2, []int{3, 9}}} {
		if x.t.Version() != x.version || !slices.Equal(x.t.List(), x.bad) || x.t.Blocks() != 10 {
			t.Errorf("%d: %v", i, x.t)
		}
		for n := -2; n < 300; n++ {
			if x.t.Has(n) != slices.Contains(x.bad, n) {
				t.Errorf("%d: Has(%d)", i, n)
			}
		}
	}
	l := b.List()
	l[0] = 7
	if !slices.Equal(b.List(), []int{0, 9}) {
		t.Error("the list isn't a copy")
	}
	for _, n := range []int{-1, 10, math.MinInt, math.MaxInt} {
		if x, err := a.With(n); x != (Table{}) || err != api.ErrRange {
			t.Errorf("With(%d): %v, %d", n, x, err)
		}
	}
	if _, err := (Table{}).With(0); err != api.ErrRange {
		t.Errorf("With of the zero table: %d", err)
	}
	last, _ := Parse(strings.Repeat("\xff", 8)+"\x00\x00", 10)
	if x, err := last.With(1); x != (Table{}) || err != api.ErrFull {
		t.Errorf("With of the last version: %v, %d", x, err)
	}
	if _, err := last.With(10); err != api.ErrRange {
		t.Errorf("With of the last version: %d", err)
	}
}

// TestText holds P9.3: the bytes, and how many there may be.
func TestText(t *testing.T) {
	x := table(t, 10, 0, 9)
	want := "\x00\x00\x00\x00\x00\x00\x00\x02\x80\x40"
	for _, size := range []int{10, 11, 32, 1024} {
		if s, err := x.Text(size); s != want+strings.Repeat("\x00", size-10) || err != api.OK {
			t.Errorf("Text(%d): %x, %d", size, s, err)
		}
	}
	for _, size := range []int{9, 0, -1, 1025, math.MinInt, math.MaxInt} {
		if s, err := x.Text(size); s != "" || err != api.ErrArg {
			t.Errorf("Text(%d): %x, %d", size, s, err)
		}
	}
	if s, err := (Table{}).Text(32); s != "" || err != api.ErrArg {
		t.Errorf("Text of the zero table: %x, %d", s, err)
	}
}

// TestParse holds P9.3: tables come back, and what is none's is told.
func TestParse(t *testing.T) {
	for _, n := range []int{1, 7, 8, 9, 16, 200, 256} {
		x := table(t, n, n-1, n/2, 0)
		for _, size := range []int{8 + (n+7)/8, 64} {
			s, _ := x.Text(size)
			if y, err := Parse(s, n); y != x || err != api.OK {
				t.Errorf("Parse of Text of %d blocks: %v, %d", n, y, err)
			}
		}
	}
	version := "\x00\x00\x00\x00\x00\x00\x00\x02"
	for i, s := range []string{"", version, version + "\x80", version + "\x80\x20", version + "\x80\x01", version + "\x80\x40\x01", version + "\x80\x40" + strings.Repeat("\x00", 50) + "\xff"} {
		if y, err := Parse(s, 10); y != (Table{}) || err != api.ErrForm {
			t.Errorf("%d: %v, %d", i, y, err)
		}
	}
	if y, err := Parse(version+"\x80\x40"+strings.Repeat("\x00", 2000), 10); y.Version() != 2 || err != api.OK {
		t.Errorf("many noughts: %v, %d", y, err)
	}
	for _, n := range []int{0, -1, 257, math.MinInt, math.MaxInt} {
		if y, err := Parse("", n); y != (Table{}) || err != api.ErrArg {
			t.Errorf("of %d blocks: %v, %d", n, y, err)
		}
	}
}
