package twin

import (
	"math"
	"slices"
	"strconv"
	"strings"
	"testing"

	"tillroll/api"
	"tillroll/bbt"
	"tillroll/drive"
	"tillroll/nand"
	"tillroll/poly"
	"tillroll/tag"
)

const blocks, pages, size = 6, 3, 32

func told(t *testing.T, what string, err, want api.Errno) {
	t.Helper()
	if err != want {
		t.Errorf("%s: %d, not %d", what, err, want)
	}
}

func table(bad ...int) bbt.Table {
	x, _ := bbt.New(blocks)
	for _, b := range bad {
		x, _ = x.With(b)
	}
	return x
}

func newChip(bad ...int) *nand.Chip {
	c, _ := nand.New(nand.Shape{Blocks: blocks, Pages: pages, Size: size}, bad)
	return c
}

func driveOf(c *nand.Chip) *drive.Drive {
	d, _ := drive.New(c)
	return d
}

// formatted: a chip with an empty table in two blocks, and its twin.
func formatted(t *testing.T, a, b int) (*nand.Chip, *Twin) {
	t.Helper()
	c := newChip()
	w, err := Format(driveOf(c), table(), [2]int{a, b})
	told(t, "Format", err, api.OK)
	return c, w
}

// is: the twin has this table in these blocks.
func is(t *testing.T, w *Twin, version uint64, bad, in []int) {
	t.Helper()
	x := w.Table()
	if x.Version() != version || !slices.Equal(x.List(), bad) || !slices.Equal(w.Blocks(), in) {
		t.Errorf("version %d, %v are bad, in %v; not %d, %v, %v", x.Version(), x.List(), w.Blocks(), version, bad, in)
	}
}

// finds: on the chip is this table, in these blocks, and all is found without a change.
func finds(t *testing.T, c *nand.Chip, version uint64, bad, in []int) {
	t.Helper()
	p, e := c.Count()
	d := driveOf(c)
	x, l, err := Find(d)
	if x.Version() != version || !slices.Equal(x.List(), bad) || !slices.Equal(l, in) || err != api.OK {
		t.Errorf("found the version %d, %v are bad, in %v, %d; not %d, %v, %v", x.Version(), x.List(), l, err, version, bad, in)
	}
	if p2, e2 := c.Count(); p2 != p || e2 != e || slices.ContainsFunc(bad, d.Bad) {
		t.Error("Find changed something")
	}
}

func counted(t *testing.T, c *nand.Chip, programs, erases int) {
	t.Helper()
	if p, e := c.Count(); p != programs || e != erases || c.Sins() != 0 {
		t.Errorf("%d programs, %d erases, %d sins; not %d, %d", p, e, c.Sins(), programs, erases)
	}
}

// TestFormat holds P10.1.
func TestFormat(t *testing.T) {
	c := newChip(5)
	d := driveOf(c)
	w, err := Format(d, table(5), [2]int{3, 1})
	told(t, "Format", err, api.OK)
	is(t, w, 1, []int{5}, []int{1, 3})
	finds(t, c, 1, []int{5}, []int{1, 3})
	counted(t, c, 2, 2)
	want, _ := table(5).Text(size)
	for _, b := range []int{1, 3} {
		p, _ := d.Read(b, 0)
		if p.State != drive.Tagged || p.Tag != (tag.Tag{Kind: tag.Table, Seq: 1, Len: 1}) || p.Data != want {
			t.Errorf("block %d: %v", b, p)
		}
	}
	if !d.Bad(5) {
		t.Error("the drive doesn't know what is bad")
	}
}

// TestFormatWrong holds P10.1: wrong inputs, and what fails by it.
func TestFormatWrong(t *testing.T) {
	if w, err := Format(nil, bbt.Table{}, [2]int{}); w != nil || err != api.ErrNil {
		t.Errorf("no drive: %d", err)
	}
	d := driveOf(newChip())
	d.Mark(4)
	other, _ := bbt.New(blocks + 1)
	for i, x := range []struct {
		t  bbt.Table
		in [2]int
	}{
		{bbt.Table{}, [2]int{0, 1}}, {other, [2]int{0, 1}}, {table(), [2]int{2, 2}}, {table(), [2]int{-1, 2}}, {table(), [2]int{0, blocks}},
		{table(), [2]int{math.MinInt, math.MaxInt}}, {table(1), [2]int{0, 1}}, {table(), [2]int{0, 4}}, {table(), [2]int{4, 0}},
	} {
		if w, err := Format(d, x.t, x.in); w != nil || err != api.ErrArg {
			t.Errorf("%d: %d", i, err)
		}
	}
	for i, x := range []struct {
		wrecked []int
		version uint64
		in      []int
		err     api.Errno
	}{{[]int{0}, 1, []int{1}, api.OK}, {[]int{1}, 1, []int{0}, api.OK}, {[]int{0, 1}, 0, nil, api.ErrRead}} {
		c := newChip()
		for _, b := range x.wrecked {
			c.Wreck(b)
		}
		w, err := Format(driveOf(c), table(), [2]int{0, 1})
		told(t, "Format "+strconv.Itoa(i), err, x.err)
		if err == api.OK {
			is(t, w, x.version, x.wrecked, x.in)
			finds(t, c, x.version, x.wrecked, x.in)
		} else if w != nil {
			t.Error("a twin beside an error")
		}
	}
	c := newChip()
	c.Fuse(3, "")
	w, err := Format(driveOf(c), table(), [2]int{0, 1})
	told(t, "cut", err, api.ErrPower)
	if w != nil {
		t.Error("a twin beside an error")
	}
}

// raw: a table's page is programmed into a block as the next one.
func raw(t *testing.T, d *drive.Drive, block int, x bbt.Table, kind tag.Kind) {
	t.Helper()
	if d.Next(block) < 0 {
		told(t, "Erase", d.Erase(block), api.OK)
	}
	s, _ := x.Text(size)
	if _, err := d.Program(block, tag.Tag{Kind: kind, Seq: 77, Len: 1}, s); err != api.OK {
		t.Errorf("Program: %d", err)
	}
}

// TestFind holds P10.2: the greatest version, in at most two blocks that aren't bad by it.
func TestFind(t *testing.T) {
	if x, l, err := Find(nil); x != (bbt.Table{}) || l != nil || err != api.ErrNil {
		t.Error("Find(nil)")
	}
	c := newChip()
	if x, l, err := Find(driveOf(c)); x != (bbt.Table{}) || l != nil || err != api.ErrNone {
		t.Error("Find of a new chip")
	}
	d := driveOf(c)
	raw(t, d, 0, table(), tag.Data)
	other, _ := bbt.New(blocks + 8)
	other, _ = other.With(12)
	raw(t, d, 0, other, tag.Table)
	if _, _, err := Find(driveOf(c)); err != api.ErrNone {
		t.Errorf("no table's page: %d", err)
	}
	raw(t, d, 4, table(1), tag.Table)
	finds(t, c, 1, []int{1}, []int{4})
	raw(t, d, 5, table(1), tag.Table)
	raw(t, d, 2, table(), tag.Table)
	finds(t, c, 1, []int{1}, []int{4, 5})
	raw(t, d, 3, table(1), tag.Table)
	finds(t, c, 1, []int{1}, []int{3, 4})
	raw(t, d, 1, table(1, 4), tag.Table)
	finds(t, c, 2, []int{1, 4}, []int{3, 5})
	raw(t, d, 2, table(4, 1, 0), tag.Table)
	raw(t, d, 2, table(4), tag.Table)
	finds(t, c, 3, []int{0, 1, 4}, []int{2, 3})
	c.Fuse(1, "")
	told(t, "cut", d.Erase(0), api.ErrPower)
	if x, l, err := Find(d); x != (bbt.Table{}) || l != nil || err != api.ErrPower {
		t.Error("Find without power")
	}
}

// TestFirstErased holds the words on writing: a block whose next page is known, and has room, isn't erased.
func TestFirstErased(t *testing.T) {
	c := newChip()
	d := driveOf(c)
	told(t, "Erase", d.Erase(0), api.OK)
	_, err := Format(d, table(), [2]int{0, 1})
	told(t, "Format", err, api.OK)
	counted(t, c, 2, 2)
	finds(t, c, 0, nil, []int{0, 1})
}

// TestLater holds the words on a block's table: it may stand behind pages that are none's.
func TestLater(t *testing.T) {
	c := newChip()
	d := driveOf(c)
	told(t, "Erase", d.Erase(3), api.OK)
	told(t, "Program", c.Program(3, 0, strings.Repeat("t", size), strings.Repeat("u", api.Spare)), api.OK)
	s, _ := table(1).Text(size)
	p := poly.Make()
	beside, _ := tag.Frame(&p, tag.Tag{Kind: tag.Table, Seq: 1, Len: 1}, s)
	told(t, "Program", c.Program(3, 1, s, beside), api.OK)
	finds(t, c, 1, []int{1}, []int{3})
}

// TestThird holds P10.4: a block that has a table, but isn't the twin's, is erased when it joins.
func TestThird(t *testing.T) {
	c := newChip()
	d := driveOf(c)
	for b := range 3 {
		raw(t, d, b, table(5), tag.Table)
	}
	w, err := Open(driveOf(c))
	told(t, "Open", err, api.OK)
	told(t, "Mark", w.Mark(0), api.OK)
	told(t, "Mark", w.Mark(1), api.ErrRead)
	told(t, "Join", w.Join(2), api.OK)
	is(t, w, 3, []int{0, 1, 5}, []int{2})
	finds(t, c, 3, []int{0, 1, 5}, []int{2})
}

// TestJoinCut holds P10.4: the power is cut while the other block is written.
func TestJoinCut(t *testing.T) {
	for cut := 1; cut <= 4; cut++ {
		c, w := formatted(t, 0, 1)
		told(t, "Mark", w.Mark(0), api.OK)
		told(t, "Mark", w.Mark(5), api.OK)
		told(t, "owed", w.Mark(4), api.ErrFull)
		c.Fuse(cut, "\x00")
		told(t, "Join", w.Join(3), api.ErrPower)
		told(t, "off", w.Mark(2), api.ErrPower)
	}
}

// TestSame holds the words on a block's table: of the same version the last one.
func TestSame(t *testing.T) {
	c := newChip()
	d := driveOf(c)
	raw(t, d, 0, table(1), tag.Table)
	raw(t, d, 0, table(2), tag.Table)
	finds(t, c, 1, []int{2}, []int{0})
}

// TestOpen holds P10.3: both are written anew, the older one first.
func TestOpen(t *testing.T) {
	c, w := formatted(t, 0, 1)
	told(t, "Mark", w.Mark(5), api.OK)
	counted(t, c, 4, 2)
	d := driveOf(c)
	w, err := Open(d)
	told(t, "Open", err, api.OK)
	is(t, w, 1, []int{5}, []int{0, 1})
	counted(t, c, 6, 4)
	if !d.Bad(5) || d.Next(0) != 1 || d.Next(1) != 1 {
		t.Error("the drive doesn't know it")
	}
	for _, older := range []int{0, 1} {
		c := newChip()
		d := driveOf(c)
		raw(t, d, older, table(), tag.Table)
		raw(t, d, 1-older, table(2), tag.Table)
		c.Fuse(2, "")
		if w, err := Open(driveOf(c)); w != nil || err != api.ErrPower {
			t.Errorf("cut: %d", err)
		}
		c.On()
		finds(t, c, 1, []int{2}, []int{1 - older})
	}
}

// TestOpenWrong holds P10.3: errors, and what fails by it.
func TestOpenWrong(t *testing.T) {
	for what, x := range map[string]struct {
		d    *drive.Drive
		want api.Errno
	}{"nil": {nil, api.ErrNil}, "new": {driveOf(newChip()), api.ErrNone}} {
		if w, err := Open(x.d); w != nil || err != x.want {
			t.Errorf("%s: %d", what, err)
		}
	}
	c := newChip()
	raw(t, driveOf(c), 0, table(0), tag.Table)
	if w, err := Open(driveOf(c)); w != nil || err != api.ErrRead {
		t.Errorf("only in a bad block: %d", err)
	}
	// The first one that is written fails: the other one can't be erased then, and the table is owed.
	c, _ = formatted(t, 0, 1)
	c.Wreck(0)
	w, err := Open(driveOf(c))
	told(t, "owed", err, api.ErrFull)
	is(t, w, 1, []int{0}, []int{1})
	finds(t, c, 0, nil, []int{0, 1})
	// The second one fails: the first one has room.
	c, _ = formatted(t, 0, 1)
	c.Wreck(1)
	w, err = Open(driveOf(c))
	told(t, "Open", err, api.OK)
	is(t, w, 1, []int{1}, []int{0})
	finds(t, c, 1, []int{1}, []int{0})
	// One block alone isn't written.
	p, e := c.Count()
	w, err = Open(driveOf(c))
	told(t, "Open", err, api.OK)
	is(t, w, 1, []int{1}, []int{0})
	counted(t, c, p, e)
}

// TestMark holds P10.4: the next version is in both blocks.
func TestMark(t *testing.T) {
	c, w := formatted(t, 2, 4)
	for i, b := range []int{0, 5, 0, 1} {
		told(t, "Mark", w.Mark(b), api.OK)
		if !w.drive.Bad(b) || w.Table().Version() != uint64(i+1) {
			t.Errorf("Mark(%d): version %d", b, w.Table().Version())
		}
	}
	is(t, w, 4, []int{0, 1, 5}, []int{2, 4})
	finds(t, c, 4, []int{0, 1, 5}, []int{2, 4})
	counted(t, c, 10, 4)
	for _, b := range []int{-1, blocks, math.MinInt, math.MaxInt} {
		told(t, "range", w.Mark(b), api.ErrRange)
	}
	is(t, w, 4, []int{0, 1, 5}, []int{2, 4})
	counted(t, c, 10, 4)
	told(t, "Mark", w.Mark(2), api.OK)
	is(t, w, 5, []int{0, 1, 2, 5}, []int{4})
	told(t, "Mark", w.Mark(4), api.ErrRead)
	if len(w.Blocks()) != 0 {
		t.Error("a bad block has the table")
	}
}

// TestMarkFull holds P10.4: the greatest version has none behind it.
func TestMarkFull(t *testing.T) {
	last, _ := bbt.Parse(strings.Repeat("\xff", 8)+"\x80", blocks)
	w, err := Format(driveOf(newChip()), last, [2]int{1, 2})
	told(t, "Format", err, api.OK)
	told(t, "Mark", w.Mark(3), api.ErrFull)
	told(t, "Mark", w.Mark(blocks), api.ErrRange)
	is(t, w, math.MaxUint64, []int{0}, []int{1, 2})
	if w.drive.Bad(3) {
		t.Error("a refused call marked a block")
	}
}

// TestMarkFails holds P10.4: blocks of the twin that fail, one by one.
func TestMarkFails(t *testing.T) {
	c, w := formatted(t, 0, 1)
	c.Wreck(0)
	told(t, "Mark", w.Mark(5), api.OK)
	is(t, w, 2, []int{0, 5}, []int{1})
	finds(t, c, 2, []int{0, 5}, []int{1})
	told(t, "Mark", w.Mark(4), api.OK)
	p, e := c.Count()
	// The only block is full: it is left.
	told(t, "owed", w.Mark(3), api.ErrFull)
	counted(t, c, p, e)
	is(t, w, 4, []int{0, 3, 4, 5}, []int{1})
	finds(t, c, 3, []int{0, 4, 5}, []int{1})

	c, w = formatted(t, 0, 1)
	c.Wreck(1)
	told(t, "Mark", w.Mark(5), api.OK)
	is(t, w, 2, []int{1, 5}, []int{0})
	finds(t, c, 2, []int{1, 5}, []int{0})

	c, w = formatted(t, 0, 1)
	c.Wreck(0)
	c.Wreck(1)
	told(t, "Mark", w.Mark(5), api.ErrRead)
	if c.Sins() != 0 {
		t.Errorf("%d sins", c.Sins())
	}
}

// TestJoin holds P10.4: a block more, and the other one that was owed the table.
func TestJoin(t *testing.T) {
	c, w := formatted(t, 0, 1)
	told(t, "two", w.Join(2), api.ErrFull)
	told(t, "Mark", w.Mark(0), api.OK)
	for _, b := range []int{0, 1, -1, blocks, math.MinInt, math.MaxInt} {
		told(t, "arg", w.Join(b), api.ErrArg)
	}
	told(t, "Mark", w.Mark(5), api.OK)
	told(t, "owed", w.Mark(4), api.ErrFull)
	p, e := c.Count()
	told(t, "Join", w.Join(3), api.OK)
	is(t, w, 3, []int{0, 4, 5}, []int{1, 3})
	finds(t, c, 3, []int{0, 4, 5}, []int{1, 3})
	counted(t, c, p+2, e+2)
	told(t, "Mark", w.Mark(1), api.OK)
	p, e = c.Count()
	told(t, "Join", w.Join(2), api.OK)
	counted(t, c, p+1, e+1)
	is(t, w, 4, []int{0, 1, 4, 5}, []int{2, 3})
	told(t, "two", w.Join(3), api.ErrArg)
}

// TestJoinFails holds P10.4: the block that should join, or the other one, fails.
func TestJoinFails(t *testing.T) {
	c, w := formatted(t, 0, 1)
	told(t, "Mark", w.Mark(0), api.OK)
	c.Wreck(2)
	told(t, "Join", w.Join(2), api.ErrFail)
	is(t, w, 2, []int{0, 2}, []int{1})
	finds(t, c, 2, []int{0, 2}, []int{1})
	told(t, "again", w.Join(2), api.ErrArg)
	c.Wreck(3)
	told(t, "Join", w.Join(3), api.ErrFail)
	is(t, w, 3, []int{0, 2, 3}, []int{1})
	finds(t, c, 2, []int{0, 2}, []int{1})
	c.Wreck(1)
	told(t, "Join", w.Join(4), api.OK)
	is(t, w, 4, []int{0, 1, 2, 3}, []int{4})
	finds(t, c, 4, []int{0, 1, 2, 3}, []int{4})
	c.Wreck(4)
	c.Wreck(5)
	told(t, "Join", w.Join(5), api.ErrRead)
	if len(w.Blocks()) != 0 || c.Sins() != 0 {
		t.Errorf("blocks %v, %d sins", w.Blocks(), c.Sins())
	}
}

// TestNone holds P10.4 of a nil twin.
func TestNone(t *testing.T) {
	var w *Twin
	if w.Table() != (bbt.Table{}) || len(w.Blocks()) != 0 {
		t.Error("a nil twin")
	}
	told(t, "Mark", w.Mark(0), api.ErrNil)
	told(t, "Join", w.Join(0), api.ErrNil)
	_, w = formatted(t, 0, 1)
	w.Blocks()[0] = 9
	is(t, w, 0, nil, []int{0, 1})
}

// steps is a life of a twin: each step's call, and the tables that may be found while it is under way.
func steps(c *nand.Chip, done func(version uint64)) api.Errno {
	w, err := Open(driveOf(c))
	if err != api.OK {
		return err
	}
	done(w.Table().Version())
	for _, b := range []int{3, 0, -2, 4, 5, 3, 4} {
		if b < 0 {
			err = w.Join(-b)
		} else {
			err = w.Mark(b)
		}
		if err != api.OK {
			return err
		}
		done(w.Table().Version())
	}
	return api.OK
}

// TestCuts holds P10.5: the power is cut at every place, and in the next Open at every place again.
func TestCuts(t *testing.T) {
	for _, torn := range []string{"", "\x00", "\x01\x00", "\x00\x01\x01", "torn"} {
		for first := 1; first < 100; first++ {
			c, last, err := lifeTill(t, first, torn)
			if err == api.OK {
				break
			}
			told(t, "life", err, api.ErrPower)
			for second := 1; second < 100; second++ {
				c.On()
				x, _, err := Find(driveOf(c))
				if err != api.OK || x.Version() < last || x.Version() > last+1 {
					t.Fatalf("cut %d, %d: version %d behind %d, %d", first, second, x.Version(), last, err)
				}
				last = x.Version()
				c.Fuse(second, torn)
				if _, err := Open(driveOf(c)); err == api.OK {
					break
				}
			}
			if c.Sins() != 0 {
				t.Fatalf("%d sins", c.Sins())
			}
		}
	}
}

// lifeTill: a life that is cut at a step; the version that was told last.
func lifeTill(t *testing.T, cut int, torn string) (*nand.Chip, uint64, api.Errno) {
	t.Helper()
	c, _ := formatted(t, 0, 1)
	c.Fuse(cut, torn)
	last := uint64(0)
	err := steps(c, func(v uint64) { last = v })
	return c, last, err
}

// TestCutsAndFails holds P10.5 where a block of the twin fails, too: what was told stays, wherever the power is cut.
func TestCutsAndFails(t *testing.T) {
	for wrecked := range 3 {
		for cut := 1; cut < 40; cut++ {
			c, _ := formatted(t, 0, 1)
			c.Wreck(wrecked)
			c.Fuse(cut, "\x00\x01")
			last := uint64(0)
			err := steps(c, func(v uint64) { last = v })
			c.On()
			x, _, found := Find(driveOf(c))
			if found != api.OK || x.Version() < last {
				t.Fatalf("block %d fails, cut %d (%d): version %d behind %d, %d", wrecked, cut, err, x.Version(), last, found)
			}
			if c.Sins() != 0 {
				t.Fatalf("%d sins", c.Sins())
			}
		}
	}
}
