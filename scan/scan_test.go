package scan

import (
	"maps"
	"slices"
	"strings"
	"testing"

	"tillroll/api"
	"tillroll/drive"
	"tillroll/nand"
	"tillroll/poly"
	"tillroll/tag"
	"tillroll/where"
)

const blocks, pages, logical = 5, 4, 6

func data(s string) string { return strings.Repeat(s, 32) }

// chip: each block's tags, programmed in order; a zero one is a torn page.
func chip(t *testing.T, l ...[]tag.Tag) (*nand.Chip, *drive.Drive) {
	t.Helper()
	c, _ := nand.New(nand.Shape{Blocks: blocks, Pages: pages, Size: 32}, nil)
	table := poly.Make()
	for b, tags := range l {
		for i, x := range tags {
			beside := data("u")
			if x != (tag.Tag{}) {
				beside, _ = tag.Frame(&table, x, data("d"))
			}
			if err := c.Program(b, i, data("d"), beside); err != api.OK {
				t.Fatalf("Program of %d: %d", b, err)
			}
		}
	}
	d, _ := drive.New(c)
	return c, d
}

func head(wear uint64) tag.Tag { return tag.Tag{Kind: tag.Head, Seq: wear, Len: 1} }

// page: a data page of a batch.
func of(n int, seq uint64, pos, length int) tag.Tag {
	return tag.Tag{Kind: tag.Data, Logical: n, Seq: seq, Pos: pos, Len: length}
}

// want is what must be found.
type want struct {
	at    map[int]where.Place
	seqs  map[int]uint64
	top   uint64
	whole bool
	stale []int
	wear  []int
}

func check(t *testing.T, c *nand.Chip, d *drive.Drive, w want) {
	t.Helper()
	p, e := c.Count()
	f, err := Scan(d, logical)
	if err != api.OK {
		t.Fatalf("Scan: %d", err)
	}
	at, seqs := map[int]where.Place{}, map[int]uint64{}
	for n := range logical {
		if p, ok := f.Map.At(n); ok {
			at[n], seqs[n] = p, f.Seqs[n]
		} else if f.Seqs[n] != 0 {
			t.Errorf("%d is nowhere, by the Seq %d", n, f.Seqs[n])
		}
	}
	if !maps.Equal(at, w.at) || !maps.Equal(seqs, w.seqs) || f.Map.Total() != len(w.at) || len(f.Seqs) != logical {
		t.Errorf("%v at %v, not %v at %v", seqs, at, w.seqs, w.at)
	}
	if f.Top != w.top || f.Whole != w.whole || !slices.Equal(f.Stale, w.stale) {
		t.Errorf("top %d, %v, stale %v; not %d, %v, %v", f.Top, f.Whole, f.Stale, w.top, w.whole, w.stale)
	}
	if w.wear != nil && !slices.Equal(f.Wear, w.wear) {
		t.Errorf("wear %v, not %v", f.Wear, w.wear)
	}
	if p2, e2 := c.Count(); p2 != p || e2 != e || c.Sins() != 0 {
		t.Error("the chip was changed")
	}
}

type places = map[int]where.Place
type seqs = map[int]uint64

// TestErased holds P13.1 of a chip without pages.
func TestErased(t *testing.T) {
	c, d := chip(t)
	check(t, c, d, want{whole: true, wear: []int{-1, -1, -1, -1, -1}})
}

// TestWhere holds P13.1: the newest page, of the same the first one; and what doesn't count.
func TestWhere(t *testing.T) {
	c, d := chip(t,
		[]tag.Tag{head(3), of(0, 1, 0, 1), of(1, 2, 0, 1), of(2, 9, 0, 1)},
		[]tag.Tag{head(1 << 30), {}, of(0, 5, 0, 1), of(3, 4, 0, 1)},
		[]tag.Tag{head(1<<30 + 1), of(1, 2, 0, 1), of(2, 8, 0, 1), of(logical, 90, 0, 2)},
		[]tag.Tag{of(0, 3, 0, 1), head(7), {Kind: tag.Table, Logical: 5, Seq: 99, Len: 1}, {Kind: tag.Head, Logical: 4, Seq: 98, Len: 1}},
		[]tag.Tag{{Kind: tag.Table, Seq: 4, Len: 1}, of(5, 0, 0, 1)})
	check(t, c, d, want{
		at:   places{0: {Block: 1, Page: 2}, 1: {Block: 0, Page: 2}, 2: {Block: 0, Page: 3}, 3: {Block: 1, Page: 3}, 5: {Block: 4, Page: 1}},
		seqs: seqs{0: 5, 1: 2, 2: 9, 3: 4, 5: 0}, top: 9, whole: true, wear: []int{3, 1 << 30, -1, -1, -1},
	})
	d.Mark(0)
	check(t, c, d, want{
		at:   places{0: {Block: 1, Page: 2}, 1: {Block: 2, Page: 1}, 2: {Block: 2, Page: 2}, 3: {Block: 1, Page: 3}, 5: {Block: 4, Page: 1}},
		seqs: seqs{0: 5, 1: 2, 2: 8, 3: 4, 5: 0}, top: 8, whole: true, wear: []int{3, 1 << 30, -1, -1, -1},
	})
}

// TestBatch holds P13.1 and P13.2: of a batch of which a page is wanting nothing is found.
func TestBatch(t *testing.T) {
	old := []tag.Tag{head(1), of(0, 1, 0, 2), of(1, 1, 1, 2)}
	c, d := chip(t, old, []tag.Tag{head(1), of(0, 2, 0, 3), of(1, 2, 1, 3)}, []tag.Tag{head(1)}, []tag.Tag{head(1), of(1, 2, 1, 3)})
	check(t, c, d, want{at: places{0: {Block: 0, Page: 1}, 1: {Block: 0, Page: 2}}, seqs: seqs{0: 1, 1: 1}, top: 2, stale: []int{1, 3}})
	c, d = chip(t, old, []tag.Tag{head(1), of(0, 2, 0, 3), of(1, 2, 1, 3)}, []tag.Tag{head(1)}, []tag.Tag{head(1), of(2, 2, 2, 3)})
	check(t, c, d, want{at: places{0: {Block: 1, Page: 1}, 1: {Block: 1, Page: 2}, 2: {Block: 3, Page: 1}}, seqs: seqs{0: 2, 1: 2, 2: 2}, top: 2, whole: true})
	// The Len of the first one is what matters.
	c, d = chip(t, old, []tag.Tag{head(1), of(0, 2, 0, 1), of(1, 2, 1, 3)})
	check(t, c, d, want{at: places{0: {Block: 1, Page: 1}, 1: {Block: 1, Page: 2}}, seqs: seqs{0: 2, 1: 2}, top: 2, whole: true})
	c, d = chip(t, old, []tag.Tag{head(1), of(1, 2, 1, 3), of(0, 2, 0, 1)})
	check(t, c, d, want{at: places{0: {Block: 0, Page: 1}, 1: {Block: 0, Page: 2}}, seqs: seqs{0: 1, 1: 1}, top: 2, stale: []int{1}})
	// A batch that isn't the top isn't looked at.
	c, d = chip(t, old, []tag.Tag{head(1), of(0, 2, 0, 3)}, []tag.Tag{of(1, 3, 0, 1)})
	check(t, c, d, want{at: places{0: {Block: 1, Page: 1}, 1: {Block: 2, Page: 0}}, seqs: seqs{0: 2, 1: 3}, top: 3, whole: true})
	// A single page of the Seq 0 that is wanting others is given up, too.
	c, d = chip(t, []tag.Tag{head(1), of(0, 0, 1, 2)})
	check(t, c, d, want{stale: []int{0}})
}

// TestCopy holds P13.2: pages that are copied, with their tags.
func TestCopy(t *testing.T) {
	c, d := chip(t,
		[]tag.Tag{head(1), of(0, 1, 0, 2), of(1, 1, 1, 2)},
		[]tag.Tag{head(1), of(1, 1, 1, 2), of(0, 2, 0, 2)},
		[]tag.Tag{head(1), of(0, 2, 0, 2), of(0, 1, 0, 2)})
	check(t, c, d, want{at: places{0: {Block: 0, Page: 1}, 1: {Block: 0, Page: 2}}, seqs: seqs{0: 1, 1: 1}, top: 2, stale: []int{1, 2}})
}

// TestThin holds the words on thinning: blocks, one by one, rising.
func TestThin(t *testing.T) {
	one, two := of(0, 1, 0, 1), of(1, 2, 0, 1)
	// All of the block 0 is in others; then all of the block 2 is in the block 0.
	c, d := chip(t, []tag.Tag{head(1), one}, []tag.Tag{head(1)}, []tag.Tag{head(1), one})
	check(t, c, d, want{at: places{0: {Block: 0, Page: 1}}, seqs: seqs{0: 1}, top: 1, whole: true})
	// The block 0 has one that is nowhere else: it stays, and the copy in the block 1 isn't used.
	c, d = chip(t, []tag.Tag{head(1), one, two}, []tag.Tag{head(1), one})
	check(t, c, d, want{at: places{0: {Block: 0, Page: 1}, 1: {Block: 0, Page: 2}}, seqs: seqs{0: 1, 1: 2}, top: 2, whole: true})
	// The block 0 is emptied, as the block 1 has more.
	c, d = chip(t, []tag.Tag{head(1), one}, []tag.Tag{head(1), two, one})
	check(t, c, d, want{at: places{0: {Block: 1, Page: 2}, 1: {Block: 1, Page: 1}}, seqs: seqs{0: 1, 1: 2}, top: 2, whole: true})
	// Two blocks have all of the block 0 together; an older page is no copy.
	c, d = chip(t, []tag.Tag{head(1), one, two}, []tag.Tag{head(1), of(0, 0, 0, 1), of(2, 1, 0, 1), one}, []tag.Tag{head(1), two, of(3, 1, 0, 1), two})
	check(t, c, d, want{
		at:   places{0: {Block: 1, Page: 3}, 1: {Block: 2, Page: 1}, 2: {Block: 1, Page: 2}, 3: {Block: 2, Page: 2}},
		seqs: seqs{0: 1, 1: 2, 2: 1, 3: 1}, top: 2, whole: true,
	})
	// A second copy in the same block doesn't empty it.
	c, d = chip(t, []tag.Tag{head(1), one, one})
	check(t, c, d, want{at: places{0: {Block: 0, Page: 1}}, seqs: seqs{0: 1}, top: 1, whole: true})
}

// TestWrong holds P13.1: errors.
func TestWrong(t *testing.T) {
	none := func(what string, f Found, err, wanted api.Errno) {
		t.Helper()
		if f.Map != nil || f.Top != 0 || f.Whole || f.Stale != nil || f.Wear != nil || f.Seqs != nil || err != wanted {
			t.Errorf("%s: %v, %d", what, f, err)
		}
	}
	f, err := Scan(nil, 0)
	none("nil", f, err, api.ErrNil)
	c, d := chip(t, []tag.Tag{head(1), of(0, 1, 0, 1)})
	for _, n := range []int{0, -1, api.MaxLogical + 1} {
		f, err = Scan(d, n)
		none("logical", f, err, api.ErrArg)
	}
	c.Fuse(1, "")
	d.Erase(4)
	f, err = Scan(d, logical)
	none("power", f, err, api.ErrPower)
	f, err = Scan(d, 0)
	none("logical", f, err, api.ErrArg)
}
