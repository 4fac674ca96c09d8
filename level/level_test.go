package level

import (
	"strings"
	"testing"

	"tillroll/api"
	"tillroll/batch"
	"tillroll/drive"
	"tillroll/move"
	"tillroll/nand"
	"tillroll/pool"
	"tillroll/tag"
	"tillroll/where"
)

const blocks, pages, size, logical = 6, 4, 32, 12

func newMover(t *testing.T) (move.Mover, *nand.Chip) {
	t.Helper()
	c, _ := nand.New(nand.Shape{Blocks: blocks, Pages: pages, Size: size}, nil)
	d, _ := drive.New(c)
	p, _ := pool.New(blocks)
	s, _ := batch.New(d, p)
	m, _ := where.New(blocks, pages, logical)
	return move.Mover{D: d, P: p, S: s, M: m}, c
}

func bytes(n int) string { return strings.Repeat(string(rune('a'+n)), size) }

// fill: the pages are put, one behind the other.
func fill(t *testing.T, v move.Mover, l ...int) where.Place {
	t.Helper()
	var at where.Place
	for _, n := range l {
		var err api.Errno
		at, err = v.S.Put(tag.Tag{Kind: tag.Data, Logical: n, Seq: 1, Len: 1}, bytes(n))
		if err != api.OK {
			t.Fatalf("Put: %d", err)
		}
		v.M.Put(n, at)
	}
	return at
}

// reads: each logical page that is somewhere reads its bytes.
func reads(t *testing.T, v move.Mover, total int) {
	t.Helper()
	for n := range logical {
		if at, ok := v.M.At(n); ok {
			if p, err := v.D.Read(at.Block, at.Page); p.Data != bytes(n) || err != api.OK {
				t.Errorf("%d at %v: %v, %d", n, at, p, err)
			}
		}
	}
	if v.M.Total() != total {
		t.Errorf("%d pages, not %d", v.M.Total(), total)
	}
}

func won(t *testing.T, v move.Mover, also move.Pages, want bool, wanted api.Errno, skip ...int) {
	t.Helper()
	if ok, err := Win(v, also, skip...); ok != want || err != wanted {
		t.Errorf("Win: %v, %d, not %v, %d", ok, err, want, wanted)
	}
}

func evened(t *testing.T, v move.Mover, most int, want bool, wanted api.Errno, skip ...int) {
	t.Helper()
	if ok, err := Even(v, nil, most, skip...); ok != want || err != wanted {
		t.Errorf("Even: %v, %d, not %v, %d", ok, err, want, wanted)
	}
}

func is(t *testing.T, v move.Mover, block int, want pool.State) {
	t.Helper()
	if v.P.State(block) != want {
		t.Errorf("block %d is %d, not %d", block, v.P.State(block), want)
	}
}

// TestNone holds P17.1 and P17.2: a mover that isn't right, and a pool of which all are Free.
func TestNone(t *testing.T) {
	won(t, move.Mover{}, nil, false, api.ErrNil)
	evened(t, move.Mover{}, 1, false, api.ErrNil)
	v, c := newMover(t)
	won(t, v, nil, false, api.OK)
	evened(t, v, 1, false, api.OK)
	if p, e := c.Count(); p != 0 || e != 0 {
		t.Error("something was done")
	}
}

// TestWin holds P17.1: the block with the least live pages, but for those that are passed over.
func TestWin(t *testing.T) {
	v, _ := newMover(t)
	fill(t, v, 0, 1, 2, 3, 4, 5, 6, 7, 8, 0, 3, 4)
	// The block 0 has 1 and 2, the block 1 has 5, the block 2 has all of its own, the block 3 is open.
	skip := append(make([]int, 0, 8), 1)
	won(t, v, nil, true, api.OK, skip...)
	is(t, v, 0, pool.Free)
	if s := skip[:4]; s[1] != 0 || s[2] != 0 || s[3] != 0 {
		t.Error("what lies behind the list was written")
	}
	reads(t, v, 9)
	won(t, v, nil, true, api.OK)
	is(t, v, 1, pool.Free)
	won(t, v, nil, false, api.OK)
	is(t, v, 2, pool.Used)
	is(t, v, 3, pool.Used)
	reads(t, v, 9)
}

// TestWinBesides holds P17.1: pages besides are needed, too.
func TestWinBesides(t *testing.T) {
	v, _ := newMover(t)
	fill(t, v, 0, 1, 2, 3, 4, 5, 6)
	besides := move.Pages{}
	for n := range 2 {
		at, _ := v.M.At(n)
		v.M.Drop(n)
		besides[n] = at
	}
	v.M.Drop(3)
	won(t, v, besides, true, api.OK, 99, -1)
	is(t, v, 0, pool.Used)
	is(t, v, 1, pool.Free)
	won(t, v, besides, false, api.OK, 0)
	v.M.Drop(2)
	won(t, v, besides, true, api.OK)
	is(t, v, 0, pool.Free)
	for n, at := range besides {
		if p, err := v.D.Read(at.Block, at.Page); p.Data != bytes(n) || err != api.OK {
			t.Errorf("%d at %v: %v, %d", n, at, p, err)
		}
	}
}

// TestEven holds P17.2 and P17.3: the least worn block, if it is in use and far behind.
func TestEven(t *testing.T) {
	v, _ := newMover(t)
	fill(t, v, 0, 1, 2, 3, 4, 5, 6)
	for b, n := range []int{3, 1, 2, 9, 8, 7} {
		v.P.Worn(b, n)
	}
	evened(t, v, 9, false, api.OK)
	evened(t, v, 0, false, api.OK)
	evened(t, v, 7, false, api.OK, 1)
	evened(t, v, 6, true, api.OK, 1)
	is(t, v, 0, pool.Free)
	reads(t, v, 7)
	evened(t, v, 8, true, api.OK)
	is(t, v, 1, pool.Free)
	evened(t, v, 2, false, api.OK)
	reads(t, v, 7)
}

// TestEvenOpen holds P17.2: the open block is passed over.
func TestEvenOpen(t *testing.T) {
	v, _ := newMover(t)
	fill(t, v, 0)
	v.P.Worn(3, 50)
	for _, b := range []int{1, 2, 4, 5} {
		v.P.Worn(b, 40)
	}
	evened(t, v, 2, false, api.OK)
	v.S.Close()
	evened(t, v, 2, true, api.OK)
	is(t, v, 0, pool.Free)
	reads(t, v, 1)
}

// TestErrors holds P17.1 and P17.2: the errors of what is below.
func TestErrors(t *testing.T) {
	v, _ := newMover(t)
	fill(t, v, 0, 1, 2)
	v.S.Close()
	v.M.Drop(2)
	for b := 1; b < blocks; b++ {
		v.P.Set(b, pool.Bad)
	}
	won(t, v, nil, false, api.ErrSpace)
	reads(t, v, 2)

	v, c := newMover(t)
	fill(t, v, 0, 1, 2)
	v.S.Close()
	for b := 1; b < blocks; b++ {
		v.P.Worn(b, 4+b)
	}
	c.Fuse(2, "")
	evened(t, v, 3, false, api.ErrPower)
	c.On()
	reads(t, v, 3)
}
