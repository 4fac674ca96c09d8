package drive

import (
	"math"
	"strings"
	"testing"

	"tillroll/api"
	"tillroll/nand"
	"tillroll/tag"
)

var one = tag.Tag{Kind: tag.Data, Logical: 3, Seq: 9, Pos: 0, Len: 1}

func many(s string) string { return strings.Repeat(s, 32) }

func drive(t *testing.T, bad ...int) (*Drive, *nand.Chip) {
	t.Helper()
	c, _ := nand.New(nand.Shape{Blocks: 5, Pages: 3, Size: 32}, bad)
	d, err := New(c)
	if err != api.OK || d.Chip() != c {
		t.Fatalf("New: %d", err)
	}
	return d, c
}

func told(t *testing.T, what string, err, want api.Errno) {
	t.Helper()
	if err != want {
		t.Errorf("%s: %d, not %d", what, err, want)
	}
}

// put: the next page of a block, and where it must be.
func put(t *testing.T, d *Drive, block, want int) {
	t.Helper()
	if p, err := d.Program(block, one, many("a")); p != want || err != api.OK {
		t.Errorf("Program of %d: %d, %d", block, p, err)
	}
}

// refused: a program that isn't done.
func refused(t *testing.T, d *Drive, block int, x tag.Tag, data string, want api.Errno) {
	t.Helper()
	if p, err := d.Program(block, x, data); p != 0 || err != want {
		t.Errorf("Program of %d: %d, %d, not %d", block, p, err, want)
	}
}

// TestNone holds P8.1 of a nil chip, and of a nil drive.
func TestNone(t *testing.T) {
	d, err := New(nil)
	if d != nil || err != api.ErrNil {
		t.Error("New(nil)")
	}
	d.Mark(0)
	if d.Chip() != nil || d.Bad(0) || d.Next(0) != -1 {
		t.Error("a nil drive")
	}
	if p, err := d.Read(0, 0); p != (Page{}) || err != api.ErrNil {
		t.Error("Read of nil")
	}
	refused(t, d, 9, tag.Tag{}, "", api.ErrNil)
	told(t, "Erase", d.Erase(9), api.ErrNil)
}

// TestNext holds P8.1 and P8.3: a next page is known from an erase on.
func TestNext(t *testing.T) {
	d, c := drive(t)
	if d.Next(0) != -1 {
		t.Error("known of a new drive")
	}
	refused(t, d, 0, one, many("a"), api.ErrOrder)
	told(t, "Erase", d.Erase(0), api.OK)
	for p := range 3 {
		if d.Next(0) != p {
			t.Errorf("next %d, not %d", d.Next(0), p)
		}
		put(t, d, 0, p)
	}
	if d.Next(0) != 3 {
		t.Errorf("next %d of a full block", d.Next(0))
	}
	refused(t, d, 0, one, many("a"), api.ErrOrder)
	told(t, "Erase", d.Erase(0), api.OK)
	put(t, d, 0, 0)
	other, _ := New(c)
	refused(t, other, 0, one, many("a"), api.ErrOrder)
	if p, e := c.Count(); p != 4 || e != 2 || c.Sins() != 0 {
		t.Errorf("%d programs, %d erases, %d sins", p, e, c.Sins())
	}
}

// TestMark holds P8.1: blocks that are bad, and those that there aren't.
func TestMark(t *testing.T) {
	d, c := drive(t)
	told(t, "Erase", d.Erase(1), api.OK)
	for _, b := range []int{1, -1, 5, math.MinInt, math.MaxInt} {
		d.Mark(b)
	}
	for b, want := range map[int]bool{0: false, 1: true, 2: false, -1: false, 5: false, math.MinInt: false, math.MaxInt: false} {
		if d.Bad(b) != want || d.Next(b) != -1 {
			t.Errorf("block %d: %v, next %d", b, d.Bad(b), d.Next(b))
		}
	}
	refused(t, d, 1, tag.Tag{}, "", api.ErrBad)
	told(t, "Erase", d.Erase(1), api.ErrBad)
	for _, b := range []int{-1, 5, math.MinInt, math.MaxInt} {
		refused(t, d, b, tag.Tag{}, "", api.ErrRange)
		told(t, "Erase", d.Erase(b), api.ErrRange)
	}
	if c.Sins() != 0 {
		t.Errorf("%d sins", c.Sins())
	}
}

// TestRead holds P8.2: what a page is.
func TestRead(t *testing.T) {
	d, c := drive(t, 4)
	told(t, "Erase", d.Erase(0), api.OK)
	put(t, d, 0, 0)
	told(t, "Program", c.Program(0, 1, many("x"), "\x00"+strings.Repeat("\xff", 31)), api.OK)
	told(t, "Program", c.Program(1, 0, many("x"), many("\xff")), api.OK)
	told(t, "Program", c.Program(2, 0, many("x"), many("y")), api.OK)
	for i, x := range []struct {
		block, page int
		want        Page
	}{
		{0, 0, Page{Tagged, one, many("a")}}, {0, 1, Page{Torn, tag.Tag{}, many("x")}}, {0, 2, Page{Blank, tag.Tag{}, many("\xff")}},
		{1, 0, Page{Torn, tag.Tag{}, many("x")}}, {2, 0, Page{Factory, tag.Tag{}, many("x")}}, {4, 0, Page{Factory, tag.Tag{}, many("\xff")}}, {4, 1, Page{Blank, tag.Tag{}, many("\xff")}},
	} {
		if p, err := d.Read(x.block, x.page); p != x.want || err != api.OK {
			t.Errorf("%d: %v, %d", i, p, err)
		}
	}
	for _, x := range [][2]int{{-1, 0}, {5, 0}, {0, -1}, {0, 3}} {
		if p, err := d.Read(x[0], x[1]); p != (Page{}) || err != api.ErrRange {
			t.Errorf("Read(%v): %v, %d", x, p, err)
		}
	}
	d.Mark(0)
	if p, err := d.Read(0, 0); p.State != Tagged || err != api.OK {
		t.Error("a bad block isn't read")
	}
}

// TestArg holds P8.3: the order of errors.
func TestArg(t *testing.T) {
	d, _ := drive(t)
	refused(t, d, 0, tag.Tag{}, many("a"), api.ErrArg)
	refused(t, d, 0, one, many("a")+"a", api.ErrArg)
	refused(t, d, 0, one, many("a")[1:], api.ErrArg)
	refused(t, d, 0, one, many("a"), api.ErrOrder)
}

// TestFail holds P8.3: a block that fails is known to be bad, and never asked again.
func TestFail(t *testing.T) {
	d, c := drive(t)
	told(t, "Erase", d.Erase(0), api.OK)
	put(t, d, 0, 0)
	c.Wreck(0)
	c.Wreck(1)
	refused(t, d, 0, one, many("a"), api.ErrFail)
	told(t, "Erase", d.Erase(1), api.ErrFail)
	for b := range 2 {
		if !d.Bad(b) || d.Next(b) != -1 {
			t.Errorf("block %d isn't bad", b)
		}
		refused(t, d, b, one, many("a"), api.ErrBad)
		told(t, "Erase", d.Erase(b), api.ErrBad)
	}
	if c.Sins() != 0 {
		t.Errorf("%d sins", c.Sins())
	}
}

// TestPower holds P8.3: with the power no next page is known any more.
func TestPower(t *testing.T) {
	for _, erase := range []bool{false, true} {
		d, c := drive(t)
		for b := range 3 {
			told(t, "Erase", d.Erase(b), api.OK)
		}
		c.Fuse(1, "\x05")
		if erase {
			told(t, "cut", d.Erase(0), api.ErrPower)
		} else {
			refused(t, d, 0, one, many("a"), api.ErrPower)
		}
		told(t, "off", d.Erase(1), api.ErrPower)
		if p, err := d.Read(0, 0); p != (Page{}) || err != api.ErrPower {
			t.Errorf("Read: %v, %d", p, err)
		}
		c.On()
		for b := range 3 {
			if d.Next(b) != -1 || d.Bad(b) {
				t.Errorf("block %d is known", b)
			}
			refused(t, d, b, one, many("a"), api.ErrOrder)
		}
		told(t, "Erase", d.Erase(1), api.OK)
		put(t, d, 1, 0)
		if c.Sins() != 0 {
			t.Errorf("%d sins", c.Sins())
		}
	}
}

// TestPowerRead holds the words on a drive: it learns of a cut by a Read, too.
func TestPowerRead(t *testing.T) {
	d, c := drive(t)
	told(t, "Erase", d.Erase(0), api.OK)
	c.Fuse(1, "")
	told(t, "cut", c.Erase(4), api.ErrPower)
	if d.Next(0) != -1 {
		t.Error("known without power")
	}
	if _, err := d.Read(0, 0); err != api.ErrPower {
		t.Errorf("Read: %d", err)
	}
	c.On()
	if d.Next(0) != -1 {
		t.Error("known behind a cut")
	}
}

// TestSins holds P8.4: whatever is asked of a drive whose bad blocks are marked, the chip sees no sin.
func TestSins(t *testing.T) {
	d, c := drive(t, 3)
	d.Mark(3)
	c.Wreck(2)
	seed := uint32(1)
	for i := range 3000 {
		seed = seed*1664525 + 1013904223
		b := int(seed>>16) % 5
		if seed>>28 == 0 {
			c.Fuse(int(seed>>20)%4, "\x01\x02")
		}
		if seed>>24&3 == 0 {
			d.Erase(b)
		} else {
			d.Program(b, one, many("a"))
		}
		if c.Off() && i%3 == 0 {
			c.On()
		}
	}
	if c.Sins() != 0 {
		t.Errorf("%d sins", c.Sins())
	}
}
