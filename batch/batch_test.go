package batch

import (
	"slices"
	"strings"
	"testing"

	"tillroll/api"
	"tillroll/drive"
	"tillroll/nand"
	"tillroll/pool"
	"tillroll/tag"
	"tillroll/where"
)

const blocks, pages, size = 5, 4, 32

func told(t *testing.T, what string, err, want api.Errno) {
	t.Helper()
	if err != want {
		t.Errorf("%s: %d, not %d", what, err, want)
	}
}

type set struct {
	c *nand.Chip
	d *drive.Drive
	p *pool.Pool
	s *Stream
}

func newSet(t *testing.T) set {
	t.Helper()
	c, _ := nand.New(nand.Shape{Blocks: blocks, Pages: pages, Size: size}, nil)
	d, _ := drive.New(c)
	p, _ := pool.New(blocks)
	s, err := New(d, p)
	told(t, "New", err, api.OK)
	return set{c, d, p, s}
}

func of(n int) tag.Tag { return tag.Tag{Kind: tag.Data, Logical: n, Seq: 7, Len: 1} }

func bytes(n int) string { return strings.Repeat(string(rune('a'+n)), size) }

// put: the n-th page is put, and is where it must be.
func (x set) put(t *testing.T, n int, want where.Place) {
	t.Helper()
	if p, err := x.s.Put(of(n), bytes(n)); p != want || err != api.OK {
		t.Errorf("page %d is at %v, %d, not %v", n, p, err, want)
	}
	x.there(t, n, want)
}

// there: the n-th page stands as it was put.
func (x set) there(t *testing.T, n int, at where.Place) {
	t.Helper()
	p, err := x.d.Read(at.Block, at.Page)
	if p != (drive.Page{State: drive.Tagged, Tag: of(n), Data: bytes(n)}) || err != api.OK {
		t.Errorf("page %d at %v: %v, %d", n, at, p, err)
	}
}

func (x set) is(t *testing.T, open, room int) {
	t.Helper()
	if x.s.Open() != open || x.s.Room() != room {
		t.Errorf("open %d, room %d; not %d, %d", x.s.Open(), x.s.Room(), open, room)
	}
}

func (x set) failed(t *testing.T, want ...int) {
	t.Helper()
	if l := x.s.Failed(); !slices.Equal(l, want) {
		t.Errorf("failed: %v, not %v", l, want)
	}
}

// TestNew holds P14.1.
func TestNew(t *testing.T) {
	x := newSet(t)
	for what, y := range map[string]struct {
		d    *drive.Drive
		n    int
		want api.Errno
	}{"no drive": {nil, 9, api.ErrNil}, "no pool": {x.d, 0, api.ErrNil}, "few": {x.d, blocks - 1, api.ErrArg}, "many": {x.d, blocks + 1, api.ErrArg}} {
		p, _ := pool.New(y.n)
		if s, err := New(y.d, p); s != nil || err != y.want {
			t.Errorf("%s: %d", what, err)
		}
	}
	x.p.Set(0, pool.Bad)
	x.p.Set(1, pool.Used)
	if _, err := New(x.d, x.p); err != api.OK {
		t.Errorf("of bad and used ones: %d", err)
	}
	x.is(t, -1, 0)
	x.failed(t)
}

// TestNone holds P14.1 of a nil stream.
func TestNone(t *testing.T) {
	var s *Stream
	s.Close()
	if s.Open() != -1 || s.Room() != 0 || len(s.Failed()) != 0 {
		t.Error("a nil stream")
	}
	if p, err := s.Put(tag.Tag{}, ""); p != (where.Place{}) || err != api.ErrNil {
		t.Errorf("Put: %v, %d", p, err)
	}
}

// TestPut holds P14.2: blocks are opened, the least worn one first, each with its head.
func TestPut(t *testing.T) {
	x := newSet(t)
	x.p.Worn(0, 4)
	x.p.Worn(1, 2)
	x.p.Set(2, pool.Used)
	x.p.Worn(3, 3)
	x.p.Worn(4, 9)
	x.put(t, 0, where.Place{Block: 1, Page: 1})
	x.is(t, 1, 2)
	x.put(t, 1, where.Place{Block: 1, Page: 2})
	x.put(t, 2, where.Place{Block: 1, Page: 3})
	x.is(t, 1, 0)
	x.put(t, 3, where.Place{Block: 3, Page: 1})
	x.s.Close()
	x.is(t, -1, 0)
	x.put(t, 4, where.Place{Block: 0, Page: 1})
	for b, wear := range map[int]int{0: 5, 1: 3, 3: 4} {
		p, _ := x.d.Read(b, 0)
		if p.State != drive.Tagged || p.Tag != (tag.Tag{Kind: tag.Head, Seq: uint64(wear), Len: 1}) || p.Data != strings.Repeat("\x00", size) || x.p.Wear(b) != wear || x.p.State(b) != pool.Used {
			t.Errorf("block %d: %v, wear %d", b, p, x.p.Wear(b))
		}
	}
	if x.p.Wear(2) != 0 || x.p.Wear(4) != 9 || x.p.State(4) != pool.Free {
		t.Error("another block changed")
	}
	if p, e := x.c.Count(); p != 8 || e != 3 || x.c.Sins() != 0 {
		t.Errorf("%d programs, %d erases", p, e)
	}
	x.failed(t)
}

// TestArg holds P14.2: what can't be put isn't, and opens nothing.
func TestArg(t *testing.T) {
	x := newSet(t)
	for i, y := range []struct {
		t    tag.Tag
		data string
	}{{tag.Tag{}, bytes(0)}, {of(-1), bytes(0)}, {of(0), bytes(0)[1:]}, {of(0), bytes(0) + "a"}, {of(0), ""}} {
		if p, err := x.s.Put(y.t, y.data); p != (where.Place{}) || err != api.ErrArg {
			t.Errorf("%d: %v, %d", i, p, err)
		}
	}
	x.is(t, -1, 0)
	if p, e := x.c.Count(); p != 0 || e != 0 || x.p.Count(pool.Free) != blocks {
		t.Error("something was done")
	}
}

// TestSpace holds P14.2: none is Free.
func TestSpace(t *testing.T) {
	x := newSet(t)
	for n := range blocks * (pages - 1) {
		x.put(t, n, where.Place{Block: n / 3, Page: 1 + n%3})
	}
	for range 2 {
		if p, err := x.s.Put(of(1), bytes(1)); p != (where.Place{}) || err != api.ErrSpace {
			t.Errorf("%v, %d", p, err)
		}
		x.is(t, -1, 0)
	}
	x.p.Set(3, pool.Free)
	x.put(t, 0, where.Place{Block: 3, Page: 1})
}

// TestFails holds P14.2 and P14.3: blocks that fail, at their erase, at their head, and at a page.
func TestFails(t *testing.T) {
	x := newSet(t)
	x.c.Wreck(0)
	x.put(t, 0, where.Place{Block: 1, Page: 1})
	x.failed(t, 0)
	x.failed(t)
	x.put(t, 1, where.Place{Block: 1, Page: 2})
	x.c.Wreck(1)
	x.c.Wreck(2)
	x.put(t, 2, where.Place{Block: 3, Page: 1})
	x.there(t, 0, where.Place{Block: 1, Page: 1})
	x.there(t, 1, where.Place{Block: 1, Page: 2})
	x.is(t, 3, 2)
	for b, want := range []pool.State{pool.Bad, pool.Bad, pool.Bad, pool.Used, pool.Free} {
		if x.p.State(b) != want {
			t.Errorf("block %d is %d", b, x.p.State(b))
		}
	}
	x.failed(t, 1, 2)
	x.c.Wreck(3)
	x.c.Wreck(4)
	if p, err := x.s.Put(of(3), bytes(3)); p != (where.Place{}) || err != api.ErrSpace {
		t.Errorf("%v, %d", p, err)
	}
	x.there(t, 2, where.Place{Block: 3, Page: 1})
	x.failed(t, 3, 4)
	x.is(t, -1, 0)
	if x.c.Sins() != 0 {
		t.Errorf("%d sins", x.c.Sins())
	}
}

// TestBadOne: a free block that the drive knows to be bad is passed over.
func TestBadOne(t *testing.T) {
	x := newSet(t)
	x.d.Mark(0)
	x.put(t, 0, where.Place{Block: 1, Page: 1})
	x.failed(t, 0)
}

// TestPower holds P14.2: the power is cut at the erase, the head, or the page.
func TestPower(t *testing.T) {
	for cut := 1; cut <= 3; cut++ {
		x := newSet(t)
		x.put(t, 0, where.Place{Block: 0, Page: 1})
		x.s.Close()
		x.c.Fuse(cut, "\x00")
		for range 3 {
			if p, err := x.s.Put(of(1), bytes(1)); p != (where.Place{}) || err != api.ErrPower {
				t.Errorf("cut %d: %v, %d", cut, p, err)
			}
			x.is(t, -1, 0)
		}
		x.failed(t)
		x.c.On()
		x.there(t, 0, where.Place{Block: 0, Page: 1})
		if p, err := x.s.Put(of(1), bytes(1)); p.Page != 1 || err != api.OK || x.c.Sins() != 0 {
			t.Errorf("on again: %v, %d", p, err)
		}
	}
	// The power is cut by another one, while a block is open.
	x := newSet(t)
	x.put(t, 0, where.Place{Block: 0, Page: 1})
	x.c.Fuse(1, "")
	x.c.Erase(4)
	if p, err := x.s.Put(of(1), bytes(1)); p != (where.Place{}) || err != api.ErrPower {
		t.Errorf("%v, %d", p, err)
	}
	x.is(t, -1, 0)
	if x.p.Count(pool.Free) != blocks-1 {
		t.Errorf("%d are free", x.p.Count(pool.Free))
	}
}
