package nand

import (
	"math"
	"strings"
	"testing"

	"tillroll/api"
)

var shape = Shape{Blocks: 5, Pages: 4, Size: 32}

// bytes: so many times one.
func bytes(b string, n int) string { return strings.Repeat(b, n) }

func chip(t *testing.T, bad ...int) *Chip {
	t.Helper()
	c, err := New(shape, bad)
	if err != api.OK {
		t.Fatalf("New: %d", err)
	}
	return c
}

// is: the page reads so.
func is(t *testing.T, c *Chip, block, page int, data, beside string) {
	t.Helper()
	if d, b, err := c.Read(block, page); d != data || b != beside || err != api.OK {
		t.Errorf("page %d of %d reads %x, %x, %d", page, block, d, b, err)
	}
}

func erased(t *testing.T, c *Chip, block int, pages ...int) {
	t.Helper()
	for _, p := range pages {
		is(t, c, block, p, bytes("\xff", 32), bytes("\xff", 32))
	}
}

// told: an error is as it must be.
func told(t *testing.T, what string, err, want api.Errno) {
	t.Helper()
	if err != want {
		t.Errorf("%s: %d, not %d", what, err, want)
	}
}

// fill: a block's first pages are programmed, each with its own bytes.
func fill(t *testing.T, c *Chip, block, pages int) {
	t.Helper()
	for p := range pages {
		told(t, "fill", c.Program(block, p, bytes(string(rune('a'+p)), 32), bytes(string(rune('A'+p)), 32)), api.OK)
	}
}

// TestShape holds P5.1: what a chip may be.
func TestShape(t *testing.T) {
	for _, s := range []Shape{{4, 2, 32}, {256, 64, 1024}, shape} {
		if !s.Right() {
			t.Errorf("%v may not be", s)
		}
		if c, err := New(s, nil); err != api.OK || c.Shape() != s {
			t.Errorf("New(%v): %d", s, err)
		}
	}
	for _, s := range []Shape{{}, {3, 2, 32}, {257, 2, 32}, {4, 1, 32}, {4, 65, 32}, {4, 2, 31}, {4, 2, 1025}, {-4, 2, 32}, {4, math.MinInt, 32}, {math.MaxInt, 2, 32}} {
		if s.Right() {
			t.Errorf("%v may be", s)
		}
		if c, err := New(s, nil); c != nil || err != api.ErrArg {
			t.Errorf("New(%v): %v, %d", s, c, err)
		}
	}
}

// TestNew holds P5.1: erased pages, and those that are bad from the factory.
func TestNew(t *testing.T) {
	c := chip(t, 2, 2, -1, 5, 4, math.MinInt, math.MaxInt)
	for b := range 5 {
		if b == 2 || b == 4 {
			is(t, c, b, 0, bytes("\xff", 32), "\x00"+bytes("\xff", 31))
			erased(t, c, b, 1, 2, 3)
			told(t, "Program", c.Program(b, 0, bytes("a", 32), bytes("b", 32)), api.ErrBad)
			told(t, "Erase", c.Erase(b), api.ErrBad)
		} else {
			erased(t, c, b, 0, 1, 2, 3)
		}
		if c.Next(b) != 0 || c.Erases(b) != 0 {
			t.Errorf("block %d: next %d, %d erases", b, c.Next(b), c.Erases(b))
		}
	}
	c.On()
	told(t, "Erase", c.Erase(2), api.ErrBad)
	if p, e := c.Count(); c.Sins() != 5 || p != 0 || e != 0 {
		t.Errorf("%d sins, %d programs, %d erases", c.Sins(), p, e)
	}
}

// TestProgram holds P5.2 and P5.3: pages in order, once, till the block is erased.
func TestProgram(t *testing.T) {
	c := chip(t)
	told(t, "page 1 ahead of 0", c.Program(0, 1, bytes("a", 32), bytes("b", 32)), api.ErrOrder)
	erased(t, c, 0, 0, 1)
	fill(t, c, 0, 4)
	is(t, c, 0, 2, bytes("c", 32), bytes("C", 32))
	told(t, "again", c.Program(0, 3, bytes("a", 32), bytes("b", 32)), api.ErrOrder)
	if c.Next(0) != 4 || c.Sins() != 2 {
		t.Errorf("next %d, %d sins", c.Next(0), c.Sins())
	}
	told(t, "Erase", c.Erase(0), api.OK)
	erased(t, c, 0, 0, 1, 2, 3)
	told(t, "Erase", c.Erase(0), api.OK)
	fill(t, c, 0, 1)
	if p, e := c.Count(); c.Next(0) != 1 || c.Erases(0) != 2 || p != 5 || e != 2 {
		t.Errorf("next %d, %d erases; %d, %d", c.Next(0), c.Erases(0), p, e)
	}
}

// TestOrderOfErrors holds P5.2 and P5.3.
func TestOrderOfErrors(t *testing.T) {
	var none *Chip
	told(t, "nil", none.Program(9, 9, "", ""), api.ErrNil)
	told(t, "nil", none.Erase(9), api.ErrNil)
	c := chip(t, 1)
	for _, p := range [][2]int{{-1, 0}, {5, 0}, {0, -1}, {0, 4}, {math.MinInt, 0}, {0, math.MaxInt}} {
		told(t, "range", c.Program(p[0], p[1], "", ""), api.ErrRange)
		if d, b, err := c.Read(p[0], p[1]); d != "" || b != "" || err != api.ErrRange {
			t.Errorf("Read(%v): %q, %q, %d", p, d, b, err)
		}
	}
	told(t, "range", c.Erase(-1), api.ErrRange)
	told(t, "range", c.Erase(5), api.ErrRange)
	for _, n := range []int{0, 31, 33} {
		told(t, "data", c.Program(1, 3, bytes("a", n), bytes("b", 32)), api.ErrArg)
		told(t, "beside", c.Program(1, 3, bytes("a", 32), bytes("b", n)), api.ErrArg)
	}
	told(t, "bad", c.Program(1, 3, bytes("a", 32), bytes("b", 32)), api.ErrBad)
	if c.Sins() != 1 {
		t.Errorf("%d sins", c.Sins())
	}
	c.Fuse(1, "")
	told(t, "cut", c.Erase(0), api.ErrPower)
	told(t, "off", c.Program(9, 9, "", ""), api.ErrPower)
	told(t, "off", c.Erase(9), api.ErrPower)
	if d, b, err := c.Read(0, 0); d != "" || b != "" || err != api.ErrPower || !c.Off() {
		t.Errorf("off: %q, %q, %d", d, b, err)
	}
	if c.Sins() != 1 {
		t.Errorf("%d sins", c.Sins())
	}
}

// TestWreck holds P5.3 and P5.4: what fails, and what it leaves.
func TestWreck(t *testing.T) {
	c := chip(t)
	fill(t, c, 1, 2)
	c.Wreck(1)
	c.Wreck(-1)
	c.Wreck(5)
	told(t, "order", c.Program(1, 3, bytes("a", 32), bytes("b", 32)), api.ErrOrder)
	told(t, "fails", c.Program(1, 2, bytes("a", 32), bytes("b", 32)), api.ErrFail)
	is(t, c, 1, 1, bytes("b", 32), bytes("B", 32))
	is(t, c, 1, 2, bytes("\x00", 32), bytes("\x00", 32))
	told(t, "failed", c.Program(1, 3, bytes("a", 32), bytes("b", 32)), api.ErrBad)
	told(t, "failed", c.Erase(1), api.ErrBad)
	if p, e := c.Count(); c.Next(1) != 3 || c.Sins() != 3 || p != 3 || e != 0 {
		t.Errorf("next %d, %d sins, %d, %d", c.Next(1), c.Sins(), p, e)
	}
	c.On()
	told(t, "fails", c.Erase(1), api.ErrFail)
	is(t, c, 1, 0, bytes("a", 32), bytes("A", 32))
	told(t, "failed", c.Erase(1), api.ErrBad)
	if p, e := c.Count(); c.Next(1) != 3 || c.Erases(1) != 0 || c.Sins() != 4 || p != 3 || e != 1 {
		t.Errorf("next %d, %d erases, %d sins, %d, %d", c.Next(1), c.Erases(1), c.Sins(), p, e)
	}
}

// TestFuse holds P5.4: what a fuse counts, and that there is none below 1, or behind On.
func TestFuse(t *testing.T) {
	c := chip(t)
	c.Wreck(4)
	c.Fuse(4, "xyz")
	fill(t, c, 0, 1)
	told(t, "sin", c.Program(0, 0, bytes("a", 32), bytes("b", 32)), api.ErrOrder)
	told(t, "fails", c.Erase(4), api.ErrFail)
	told(t, "Erase", c.Erase(3), api.OK)
	if c.Off() {
		t.Error("the power is cut early")
	}
	told(t, "cut", c.Program(0, 1, bytes("a", 32), bytes("b", 32)), api.ErrPower)
	p, e := c.Count()
	if !c.Off() || c.Next(0) != 2 || p != 2 || e != 2 || c.Sins() != 1 {
		t.Errorf("off %v, next %d, %d, %d", c.Off(), c.Next(0), p, e)
	}
	c.Fuse(1, "")
	c.On()
	torn := bytes("xyz", 22)
	is(t, c, 0, 1, torn[:32], torn[32:64])
	fill(t, c, 3, 2)
	for _, n := range []int{0, -1, math.MinInt} {
		c.Fuse(1, "")
		c.Fuse(n, "")
		told(t, "none", c.Erase(3), api.OK)
	}
	c.Fuse(math.MaxInt, "")
	told(t, "far", c.Erase(3), api.OK)
	c.Fuse(1, "")
	told(t, "cut", c.Program(3, 0, bytes("a", 32), bytes("b", 32)), api.ErrPower)
	c.On()
	erased(t, c, 3, 0)
	if c.Next(3) != 1 {
		t.Errorf("next %d", c.Next(3))
	}
}

// TestTornErase holds the words on an erase that is cut, also of a wrecked block.
func TestTornErase(t *testing.T) {
	for _, x := range []struct {
		torn string
		gone string
		next int
	}{
		{"", "yyyy", 0}, {"\x01", "yyyy", 0}, {"\x00", "nnnn", 3}, {"\x00\x01", "nyny", 3}, {"\x01\x00", "ynyn", 2},
		{"\x00\x01\x03\xff", "nyyy", 1}, {"\x03\x02\x01", "ynyy", 2}, {"\x01\x01\x00\x01\x00", "yyny", 3},
	} {
		c := chip(t)
		fill(t, c, 0, 3)
		c.Wreck(0)
		c.Fuse(1, x.torn)
		told(t, "cut", c.Erase(0), api.ErrPower)
		c.On()
		for p := range 3 {
			if x.gone[p] == 'y' {
				erased(t, c, 0, p)
			} else {
				is(t, c, 0, p, bytes(string(rune('a'+p)), 32), bytes(string(rune('A'+p)), 32))
			}
		}
		_, e := c.Count()
		if c.Next(0) != x.next || c.Erases(0) != 0 || e != 1 || c.Sins() != 0 {
			t.Errorf("torn %x: next %d, %d erases, counted %d", x.torn, c.Next(0), c.Erases(0), e)
		}
	}
}

// TestNone holds P5.4 of a nil chip, and of blocks that there aren't.
func TestNone(t *testing.T) {
	var c *Chip
	c.Wreck(0)
	c.Fuse(1, "")
	c.On()
	if d, b, err := c.Read(0, 0); d != "" || b != "" || err != api.ErrNil {
		t.Error("Read of nil")
	}
	p, e := c.Count()
	if c.Shape() != (Shape{}) || c.Next(0) != 0 || c.Erases(0) != 0 || c.Off() || p != 0 || e != 0 || c.Sins() != 0 {
		t.Error("a nil chip")
	}
	c = chip(t)
	for _, b := range []int{-1, 5, math.MinInt, math.MaxInt} {
		if c.Next(b) != 0 || c.Erases(b) != 0 {
			t.Errorf("block %d", b)
		}
	}
}

// TestApart holds P2: two chips have nothing to do with one another.
func TestApart(t *testing.T) {
	a, b := chip(t), chip(t)
	fill(t, a, 0, 2)
	a.Fuse(1, "")
	told(t, "cut", a.Erase(1), api.ErrPower)
	erased(t, b, 0, 0, 1)
	if b.Off() || b.Next(0) != 0 {
		t.Error("the other chip changed")
	}
}
