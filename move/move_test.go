package move

import (
	"maps"
	"math"
	"strings"
	"testing"

	"tillroll/api"
	"tillroll/batch"
	"tillroll/drive"
	"tillroll/nand"
	"tillroll/pool"
	"tillroll/scan"
	"tillroll/tag"
	"tillroll/where"
)

const blocks, pages, size, logical = 6, 4, 32, 12

func told(t *testing.T, what string, err, want api.Errno) {
	t.Helper()
	if err != want {
		t.Errorf("%s: %d, not %d", what, err, want)
	}
}

func newMover(t *testing.T) (Mover, *nand.Chip) {
	t.Helper()
	c, _ := nand.New(nand.Shape{Blocks: blocks, Pages: pages, Size: size}, nil)
	d, _ := drive.New(c)
	p, _ := pool.New(blocks)
	s, _ := batch.New(d, p)
	m, err := where.New(blocks, pages, logical)
	told(t, "New", err, api.OK)
	return Mover{d, p, s, m}, c
}

func of(n int) tag.Tag { return tag.Tag{Kind: tag.Data, Logical: n, Seq: uint64(n), Len: 1} }

func bytes(n int) string { return strings.Repeat(string(rune('a'+n)), size) }

// put: a logical page is written, and the map has it there.
func put(t *testing.T, v Mover, n int) where.Place {
	t.Helper()
	at, err := v.S.Put(of(n), bytes(n))
	told(t, "Put", err, api.OK)
	if n < logical {
		told(t, "Put", v.M.Put(n, at), api.OK)
	}
	return at
}

// stands: the page at a place is that of a logical one.
func stands(t *testing.T, v Mover, n int, at where.Place) {
	t.Helper()
	if p, err := v.D.Read(at.Block, at.Page); p.Tag != of(n) || p.Data != bytes(n) || err != api.OK {
		t.Errorf("page %d at %v: %v, %d", n, at, p, err)
	}
}

func at(t *testing.T, v Mover, n int, want where.Place) {
	t.Helper()
	if p, ok := v.M.At(n); p != want || !ok {
		t.Errorf("%d is at %v, not %v", n, p, want)
	}
	stands(t, v, n, want)
}

// TestRight holds P16.1.
func TestRight(t *testing.T) {
	v, _ := newMover(t)
	if !v.Right() || (Mover{}).Right() {
		t.Error("Right")
	}
	for i, w := range []Mover{{nil, v.P, v.S, v.M}, {v.D, nil, v.S, v.M}, {v.D, v.P, nil, v.M}, {v.D, v.P, v.S, nil}, {}} {
		if w.Right() {
			t.Errorf("%d is right", i)
		}
		told(t, "Clear", w.Clear(99, nil), api.ErrNil)
		told(t, "Free", w.Free(99), api.ErrNil)
	}
	for _, b := range []int{-1, blocks, math.MinInt, math.MaxInt} {
		told(t, "Clear", v.Clear(b, nil), api.ErrRange)
		told(t, "Free", v.Free(b), api.ErrRange)
	}
}

// TestClear holds P16.1: what is needed is moved, in order, with its tag and data; all else isn't.
func TestClear(t *testing.T) {
	v, c := newMover(t)
	for n := range 3 {
		put(t, v, n)
	}
	put(t, v, 1)             // page 2 of the block 0 isn't needed any more
	besides := put(t, v, 12) // the block 1, page 2
	also := Pages{7: besides, 8: where.Place{Block: 5, Page: 3}}
	p, e := c.Count()
	told(t, "Clear", v.Clear(0, also), api.OK)
	at(t, v, 0, where.Place{Block: 1, Page: 3})
	at(t, v, 2, where.Place{Block: 2, Page: 1})
	at(t, v, 1, where.Place{Block: 1, Page: 1})
	if v.M.Live(0) != 0 || !maps.Equal(also, Pages{7: besides, 8: where.Place{Block: 5, Page: 3}}) {
		t.Errorf("%d live, %v", v.M.Live(0), also)
	}
	if p2, e2 := c.Count(); p2 != p+3 || e2 != e+1 {
		t.Errorf("%d programs, %d erases", p2-p, e2-e)
	}
	told(t, "Clear", v.Clear(1, also), api.OK)
	at(t, v, 1, where.Place{Block: 2, Page: 2})
	at(t, v, 0, where.Place{Block: 3, Page: 1})
	stands(t, v, 12, also[7])
	if also[7] != (where.Place{Block: 2, Page: 3}) || also[8] != (where.Place{Block: 5, Page: 3}) || len(also) != 2 {
		t.Errorf("also %v", also)
	}
	// Without needed pages nothing is put.
	p, e = c.Count()
	told(t, "Clear", v.Clear(0, nil), api.OK)
	told(t, "Clear", v.Clear(4, also), api.OK)
	if p2, e2 := c.Count(); p2 != p || e2 != e {
		t.Error("something was put")
	}
}

// TestClearOpen holds P16.1: the open block is closed first.
func TestClearOpen(t *testing.T) {
	v, _ := newMover(t)
	put(t, v, 0)
	told(t, "Clear", v.Clear(0, nil), api.OK)
	at(t, v, 0, where.Place{Block: 1, Page: 1})
	if v.S.Open() != 1 {
		t.Errorf("open: %d", v.S.Open())
	}
	v.M.Drop(0)
	told(t, "Clear", v.Clear(1, nil), api.OK)
	if v.S.Open() != -1 {
		t.Errorf("open: %d", v.S.Open())
	}
}

// TestClearErrors holds P16.1: what was moved ahead of an error stays moved.
func TestClearErrors(t *testing.T) {
	v, _ := newMover(t)
	for n := range 2 {
		put(t, v, n)
	}
	v.M.Put(5, where.Place{Block: 0, Page: 3})
	told(t, "Clear", v.Clear(0, nil), api.ErrForm)
	at(t, v, 0, where.Place{Block: 1, Page: 1})
	at(t, v, 1, where.Place{Block: 1, Page: 2})
	if p, _ := v.M.At(5); p != (where.Place{Block: 0, Page: 3}) {
		t.Errorf("5 is at %v", p)
	}

	v, _ = newMover(t)
	for n := range 3 {
		put(t, v, n)
	}
	for b := 2; b < blocks; b++ {
		v.P.Set(b, pool.Used)
	}
	put(t, v, 3)
	told(t, "Clear", v.Clear(0, nil), api.ErrSpace)
	at(t, v, 0, where.Place{Block: 1, Page: 2})
	at(t, v, 1, where.Place{Block: 1, Page: 3})
	at(t, v, 2, where.Place{Block: 0, Page: 3})

	v, c := newMover(t)
	for n := range 3 {
		put(t, v, n)
	}
	c.Fuse(4, "")
	told(t, "Clear", v.Clear(0, nil), api.ErrPower)
	told(t, "Clear", v.Clear(0, nil), api.ErrPower)
	c.On()
	at(t, v, 0, where.Place{Block: 1, Page: 1})
	at(t, v, 1, where.Place{Block: 0, Page: 2})
}

// TestFree holds P16.2.
func TestFree(t *testing.T) {
	v, _ := newMover(t)
	for n := range 4 {
		put(t, v, n)
	}
	told(t, "live", v.Free(0), api.ErrState)
	v.M.Drop(3)
	told(t, "open", v.Free(1), api.ErrState)
	told(t, "free", v.Free(2), api.ErrState)
	v.P.Set(3, pool.Bad)
	told(t, "bad", v.Free(3), api.ErrState)
	v.S.Close()
	told(t, "Free", v.Free(1), api.OK)
	told(t, "Clear", v.Clear(0, nil), api.OK)
	told(t, "Free", v.Free(0), api.OK)
	for b, want := range []pool.State{pool.Free, pool.Free, pool.Used, pool.Bad, pool.Free, pool.Free} {
		if v.P.State(b) != want {
			t.Errorf("block %d is %d", b, v.P.State(b))
		}
	}
}

// TestFails holds P16.3: wherever blocks fail, a scan finds the same pages with the same Seqs.
func TestFails(t *testing.T) {
	for wrecked := range blocks {
		for cut := range 6 {
			v, c := newMover(t)
			for n := range 5 {
				put(t, v, n)
			}
			put(t, v, 1)
			c.Wreck(wrecked)
			c.Fuse(cut, "\x00torn")
			err := v.Clear(0, nil)
			if err != api.OK && err != api.ErrPower {
				t.Errorf("Clear: %d", err)
			}
			c.On()
			d, _ := drive.New(c)
			f, err := scan.Scan(d, logical)
			told(t, "Scan", err, api.OK)
			for n := range 5 {
				p, ok := f.Map.At(n)
				if !ok || f.Seqs[n] != uint64(n) {
					t.Errorf("block %d fails, cut %d: %d is at %v, by the Seq %d", wrecked, cut, n, p, f.Seqs[n])
				}
				stands(t, v, n, p)
				mine, _ := v.M.At(n)
				stands(t, v, n, mine)
			}
			if f.Map.Total() != 5 || c.Sins() != 0 {
				t.Errorf("%d pages, %d sins", f.Map.Total(), c.Sins())
			}
		}
	}
}
