package disk

import (
	"math"
	"slices"
	"strings"
	"testing"

	"tillroll/api"
	"tillroll/drive"
	"tillroll/geo"
	"tillroll/nand"
	"tillroll/pool"
	"tillroll/twin"
)

var small = config(10, 4, 1, 3, 2, 3)

func bytes(s string) string { return strings.Repeat(s, 32) }

// TestFormat holds P18.1: what may be formatted, and mounted.
func TestFormat(t *testing.T) {
	other := small
	other.Shape.Size = 64
	wrong := small
	wrong.Batch = 0
	for _, call := range []func(*nand.Chip, geo.Config) api.Errno{Format, func(c *nand.Chip, g geo.Config) api.Errno {
		k, err := Mount(c, g)
		if k != nil && err != api.OK {
			t.Error("a disk beside an error")
		}
		return err
	}} {
		c, _ := nand.New(small.Shape, nil)
		told(t, "nil", call(nil, geo.Config{}), api.ErrNil)
		told(t, "zero", call(c, geo.Config{}), api.ErrArg)
		told(t, "wrong", call(c, wrong), api.ErrArg)
		told(t, "other", call(c, other), api.ErrArg)
		c.Fuse(1, "")
		c.Erase(0)
		told(t, "other", call(c, other), api.ErrArg)
		told(t, "off", call(c, small), api.ErrPower)
	}
	c, _ := nand.New(small.Shape, nil)
	_, err := Mount(c, small)
	told(t, "not formatted", err, api.ErrNone)
	_, k := made(t, small, 0)
	if s := k.Stat(); s != (Stat{Bad: 1, Free: 7}) {
		t.Errorf("Stat %v", s)
	}
	if k.Config() != small || k.Drive() == nil {
		t.Error("Config, or Drive")
	}
}

// TestFormatFails holds P18.1: blocks that are bad from the factory, or fail by it.
func TestFormatFails(t *testing.T) {
	g := config(12, 4, 3, 3, 2, 3)
	for i, x := range []struct {
		bad, wrecked []int
		want         api.Errno
	}{
		{[]int{0, 1, 2}, nil, api.OK}, {[]int{0, 1, 2, 3}, nil, api.ErrRead}, {[]int{5}, []int{0, 1}, api.OK}, {nil, []int{0, 1, 2}, api.OK}, {nil, []int{1, 2, 3}, api.OK},
		{nil, []int{0, 1, 2, 3}, api.ErrRead}, {[]int{11, 10}, []int{0, 1}, api.ErrRead}, {[]int{11, 10}, []int{1}, api.OK},
		{nil, []int{0, 1, 2, 3, 4, 5, 6, 7, 8, 9, 10, 11}, api.ErrRead}, {[]int{0, 1, 2, 3, 4, 5, 6, 7, 8, 9, 10, 11}, nil, api.ErrRead},
	} {
		c, _ := nand.New(g.Shape, x.bad)
		for _, b := range x.wrecked {
			c.Wreck(b)
		}
		err := Format(c, g)
		if err != x.want || c.Sins() != 0 {
			t.Errorf("%d: %d, not %d; %d sins", i, err, x.want, c.Sins())
		}
		if err == api.OK {
			d, _ := drive.New(c)
			if _, l, _ := twin.Find(d); len(l) != geo.Tables {
				t.Errorf("%d: the table is in %v", i, l)
			}
			k, err := Mount(c, g)
			told(t, "Mount", err, api.OK)
			if s := k.Stat(); s.Bad != len(x.bad)+len(x.wrecked) || s.Read || s.Free != 10-s.Bad {
				t.Errorf("%d: %v", i, s)
			}
			told(t, "Write", k.Write(Write{0, bytes("a")}), api.OK)
		}
	}
	for cut := 1; cut < 5; cut++ {
		c, _ := nand.New(small.Shape, nil)
		c.Fuse(cut, "\x00")
		told(t, "cut", Format(c, small), api.ErrPower)
	}
}

// TestFormatAgain: a chip that is formatted anew has nothing of its other life.
func TestFormatAgain(t *testing.T) {
	c, k := made(t, small)
	for range 20 {
		told(t, "Write", k.Write(Write{0, bytes("a")}, Write{2, bytes("b")}), api.OK)
	}
	told(t, "Format", Format(c, small), api.OK)
	k, err := Mount(c, small)
	told(t, "Mount", err, api.OK)
	if s := k.Stat(); s != (Stat{Free: 8}) {
		t.Errorf("Stat %v", s)
	}
}

// TestFormatOver: blocks that have pages of another life, and fail to be erased.
func TestFormatOver(t *testing.T) {
	for spares, want := range []api.Errno{api.ErrRead, api.OK, api.OK} {
		g := config(11, 4, spares, 2, 1, 3)
		c, _ := nand.New(g.Shape, nil)
		for _, b := range []int{4, 7, 9} {
			told(t, "Program", c.Program(b, 0, bytes("a"), bytes("\xff")), api.OK)
		}
		c.Wreck(7)
		told(t, "Format", Format(c, g), want)
		if want != api.OK {
			continue
		}
		k, err := Mount(c, g)
		told(t, "Mount", err, api.OK)
		if s := k.Stat(); s.Bad != 1 || c.Erases(4) != 1 || c.Erases(9) != 1 || c.Erases(5) != 0 || c.Sins() != 0 {
			t.Errorf("%v, %d sins", s, c.Sins())
		}
	}
}

// TestLostWear: a block that lost its wear by a cut is neither a new one, nor worn most.
func TestLostWear(t *testing.T) {
	c, k := made(t, small)
	told(t, "Write", k.Write(Write{0, bytes("a")}), api.OK)
	if s := k.Stat(); s.Low != 0 || s.High != 1 {
		t.Errorf("%v", s)
	}
	k, err := Mount(c, small)
	told(t, "Mount", err, api.OK)
	if s := k.Stat(); s.Low != 0 || s.High != 1 {
		t.Errorf("%v", s)
	}
	for range 200 {
		told(t, "Write", k.Write(Write{0, bytes("a")}), api.OK)
	}
	lost, before := 0, k.Stat()
	for k.pool.State(lost) != pool.Free {
		lost++
	}
	told(t, "Erase", k.drive.Erase(lost), api.OK)
	k, err = Mount(c, small)
	told(t, "Mount", err, api.OK)
	if s := k.Stat(); k.Worn()[lost] != s.Low || s.Low < before.Low-1 || s.Low < 5 {
		t.Errorf("wear %d; %v, before %v", k.Worn()[lost], s, before)
	}
}

// TestRead holds P18.2.
func TestRead(t *testing.T) {
	var none *Disk
	if s, err := none.Read(0); s != "" || err != api.ErrNil || none.Drive() != nil || none.Config() != (geo.Config{}) {
		t.Error("a nil disk")
	}
	c, k := made(t, small)
	told(t, "Write", k.Write(Write{1, bytes("a")}), api.OK)
	for n, want := range map[int]api.Errno{0: api.ErrNone, 2: api.ErrNone, 3: api.ErrRange, -1: api.ErrRange, math.MinInt: api.ErrRange, math.MaxInt: api.ErrRange} {
		if s, err := k.Read(n); s != "" || err != want {
			t.Errorf("Read(%d): %x, %d", n, s, err)
		}
	}
	if s, err := k.Read(1); s != bytes("a") || err != api.OK {
		t.Errorf("Read: %x, %d", s, err)
	}
	c.Fuse(1, "")
	c.Erase(8)
	if s, err := k.Read(9); s != "" || err != api.ErrPower {
		t.Errorf("off: %x, %d", s, err)
	}
	c.On()
	if s, err := k.Read(1); s != bytes("a") || err != api.OK {
		t.Errorf("on again: %x, %d", s, err)
	}
}

// TestWrite holds P18.3: the order of errors, and that a refused call changes nothing.
func TestWrite(t *testing.T) {
	var none *Disk
	told(t, "nil", none.Write(), api.ErrNil)
	told(t, "nil", none.Trim(9), api.ErrNil)
	c, k := made(t, small)
	told(t, "Write", k.Write(Write{0, bytes("a")}, Write{1, bytes("b")}), api.OK)
	p, e := c.Count()
	for i, x := range []struct {
		l    []Write
		want api.Errno
	}{
		{nil, api.ErrArg}, {[]Write{{0, bytes("c")}, {1, bytes("c")}, {2, bytes("c")}}, api.ErrArg}, {[]Write{{0, bytes("c")}, {0, bytes("d")}}, api.ErrArg},
		{[]Write{{9, bytes("c")}, {9, bytes("d")}}, api.ErrArg}, {[]Write{{9, bytes("c")}, {0, "d"}}, api.ErrArg}, {[]Write{{0, bytes("c") + "c"}}, api.ErrArg}, {[]Write{{0, ""}}, api.ErrArg},
		{[]Write{{0, bytes("c")}, {3, bytes("c")}}, api.ErrRange}, {[]Write{{-1, bytes("c")}}, api.ErrRange}, {[]Write{{math.MinInt, bytes("c")}, {math.MaxInt, bytes("c")}}, api.ErrRange},
	} {
		if err := k.Write(x.l...); err != x.want {
			t.Errorf("%d: %d, not %d", i, err, x.want)
		}
	}
	if p2, e2 := c.Count(); p2 != p || e2 != e || k.Stat().Seq != 1 {
		t.Error("a refused call changed something")
	}
	c.Fuse(1, "")
	told(t, "cut", k.Write(Write{0, bytes("z")}), api.ErrPower)
	told(t, "off", k.Write(), api.ErrPower)
	told(t, "off", k.Audit(), api.ErrPower)
}

// TestReadOnly holds P18.3 and P18.5: with too many bad blocks nothing is written any more, and all is read.
func TestReadOnly(t *testing.T) {
	g := config(8, 4, 0, 2, 2, 3)
	c, k := made(t, g)
	told(t, "Write", k.Write(Write{0, bytes("a")}, Write{1, bytes("b")}), api.OK)
	c.Wreck(k.stream.Open())
	for range 2 {
		for range 3 {
			told(t, "Write", k.Write(Write{0, bytes("c")}, Write{1, bytes("d")}), api.ErrRead)
			for n, want := range []string{"a", "b"} {
				if s, err := k.Read(n); s != bytes(want) || err != api.OK {
					t.Errorf("Read(%d): %x, %d", n, s, err)
				}
			}
			if s := k.Stat(); !s.Read || s.Bad != 1 || s.Seq != 1 {
				t.Errorf("Stat %v", s)
			}
			told(t, "arg", k.Write(), api.ErrArg)
			told(t, "range", k.Write(Write{7, bytes("c")}), api.ErrRange)
			told(t, "Audit", k.Audit(), api.OK)
		}
		var err api.Errno
		k, err = Mount(c, g)
		told(t, "Mount", err, api.OK)
	}
	if c.Sins() != 0 {
		t.Errorf("%d sins", c.Sins())
	}
}

// TestAllFail holds P18.5: whichever blocks fail, beyond all spares, nothing is lost, and no sin is asked, also by a mount.
func TestAllFail(t *testing.T) {
	g := full(10, 4, 1, 2, 3)
	for first := range g.Shape.Blocks {
		m := newModel(t, g, int64(first))
		if m.until(20) != nil {
			t.Fatal("cut")
		}
		for b := range g.Shape.Blocks {
			if b >= first && !m.k.hasTable(b) {
				m.c.Wreck(b)
			}
		}
		refused := false
		for range 30 {
			l := m.batch()
			if err := m.k.Write(l...); err == api.OK {
				m.done(l)
			} else {
				told(t, "Write", err, api.ErrRead)
				refused = true
			}
		}
		m.verify(nil)
		k, err := Mount(m.c, g)
		told(t, "Mount", err, api.OK)
		m.k = k
		m.verify(nil)
		if bad := k.Stat().Bad; refused != k.Stat().Read || refused != (bad > g.Spares) {
			t.Errorf("from block %d on: refused %v, %v", first, refused, k.Stat())
		}
		if refused {
			told(t, "Write", k.Write(m.batch()...), api.ErrRead)
			m.verify(nil)
		}
	}
}

// TestFormatTorn: a chip whose formatting was cut is formatted, when the power is on.
func TestFormatTorn(t *testing.T) {
	for _, torn := range tears {
		for cut := 1; cut < 5; cut++ {
			c, _ := nand.New(small.Shape, nil)
			c.Fuse(cut, torn)
			told(t, "cut", Format(c, small), api.ErrPower)
			c.On()
			told(t, "Format", Format(c, small), api.OK)
			k, err := Mount(c, small)
			told(t, "Mount", err, api.OK)
			if k.Stat().Bad != 0 {
				t.Errorf("cut %d, torn %x: %v", cut, torn, k.Stat())
			}
		}
	}
}

// TestLastPage holds P18.3: what makes a disk one that can only be read, in the last page, doesn't refuse the batch.
func TestLastPage(t *testing.T) {
	g := config(8, 4, 0, 2, 1, 3)
	c, k := made(t, g)
	told(t, "Write", k.Write(Write{0, bytes("a")}), api.OK)
	c.Wreck(k.stream.Open())
	told(t, "Write", k.Write(Write{0, bytes("b")}), api.OK)
	told(t, "Write", k.Write(Write{0, bytes("c")}), api.ErrRead)
	if s, _ := k.Read(0); s != bytes("b") {
		t.Errorf("reads %x", s)
	}
	k, err := Mount(c, g)
	told(t, "Mount", err, api.OK)
	if s, _ := k.Read(0); s != bytes("b") || !k.Stat().Read {
		t.Errorf("reads %x", s)
	}
}

// TestTrim holds P18.3.
func TestTrim(t *testing.T) {
	c, k := made(t, small)
	for _, n := range []int{-1, 3, math.MinInt, math.MaxInt} {
		told(t, "Trim", k.Trim(n), api.ErrRange)
	}
	told(t, "Trim", k.Trim(0), api.OK)
	told(t, "Write", k.Write(Write{0, bytes("a")}, Write{1, bytes("b")}), api.OK)
	told(t, "Trim", k.Trim(0), api.OK)
	// Of the last batch no page may go: it stays as it is.
	if s, err := k.Read(0); s != bytes("a") || err != api.OK {
		t.Errorf("%x, %d", s, err)
	}
	told(t, "Write", k.Write(Write{2, bytes("c")}), api.OK)
	told(t, "Trim", k.Trim(0), api.OK)
	if s, err := k.Read(0); s != "" || err != api.ErrNone || k.Stat().Live != 2 {
		t.Errorf("%x, %d", s, err)
	}
	told(t, "Write", k.Write(Write{0, bytes("d")}), api.OK)
	if s, err := k.Read(0); s != bytes("d") || err != api.OK {
		t.Errorf("%x, %d", s, err)
	}
	c.Fuse(1, "")
	c.Erase(8)
	told(t, "off", k.Trim(0), api.OK)
}

// TestTrimmedTop: pages of the last batch are trimmed, their blocks are won, a write is cut: nothing of the batch is lost.
func TestTrimmedTop(t *testing.T) {
	for cut := range 60 {
		m := newModel(t, full(7, 4, 0, 1, 2), int64(cut))
		m.c.Fuse(0, "")
		for i := range 30 {
			l := m.batch()
			if i == 25 {
				m.c.Fuse(1+cut%12, tears[cut%len(tears)])
			}
			err := m.k.Write(l...)
			if err == api.ErrPower {
				m.mount(cut % 3)
				m.verify(l)
				continue
			}
			told(t, "Write", err, api.OK)
			m.done(l)
			m.trim(l[0].Logical)
		}
		m.mount(0)
		m.verify(nil)
	}
}

// TestStat holds P18.4 and P18.7.
func TestStat(t *testing.T) {
	var none *Disk
	if none.Stat() != (Stat{}) || len(none.Worn()) != 0 {
		t.Error("a nil disk")
	}
	told(t, "Audit", none.Audit(), api.ErrNil)
	c, k := made(t, small, 4)
	if s := k.Stat(); s != (Stat{Bad: 1, Free: 7}) {
		t.Errorf("Stat %v", s)
	}
	for range 40 {
		told(t, "Write", k.Write(Write{0, bytes("a")}, Write{2, bytes("b")}), api.OK)
	}
	low, high, free := math.MaxInt, 0, 0
	for b, n := range k.Worn() {
		switch {
		case b == 4:
			if n != -1 {
				t.Errorf("the bad block's wear is %d", n)
			}
		case slices.Contains(k.twin.Blocks(), b):
		default:
			if n != c.Erases(b) {
				t.Errorf("block %d: wear %d, erased %d times", b, n, c.Erases(b))
			}
			low, high = min(low, n), max(high, n)
		}
		if k.pool.State(b) == pool.Free {
			free++
		}
	}
	want := Stat{Bad: 1, Free: free, Live: 2, Low: low, High: high, Seq: 40}
	if s := k.Stat(); s != want || high == 0 {
		t.Errorf("Stat %v, not %v", s, want)
	}
	k, err := Mount(c, small)
	told(t, "Mount", err, api.OK)
	if s := k.Stat(); s.Low != low || s.High != high || s.Seq != 40 || s.Live != 2 {
		t.Errorf("Stat %v behind a mount, not %v", s, want)
	}
	k.Worn()[0] = 99
	if k.Worn()[0] == 99 {
		t.Error("Worn isn't new memory")
	}
}

// TestAudit holds P18.7: what doesn't agree is told.
func TestAudit(t *testing.T) {
	for i, spoil := range []func(*Disk){
		func(k *Disk) { at, _ := k.places.At(0); k.places.Drop(0); k.places.Put(2, at) },
		func(k *Disk) { at, _ := k.places.At(0); at.Page = 3; k.places.Put(0, at) },
		func(k *Disk) { at, _ := k.places.At(0); at.Page = 0; k.places.Put(0, at) },
		func(k *Disk) { at, _ := k.places.At(0); k.pool.Set(at.Block, pool.Free) },
		func(k *Disk) { k.pool.Set(k.twin.Blocks()[1], pool.Free) },
		func(k *Disk) { k.pool.Set(k.twin.Blocks()[0], pool.Bad) },
		func(k *Disk) { k.twin.Mark(8) },
	} {
		_, k := made(t, small)
		told(t, "Write", k.Write(Write{0, bytes("a")}), api.OK)
		told(t, "Audit", k.Audit(), api.OK)
		spoil(k)
		if err := k.Audit(); err != api.ErrForm {
			t.Errorf("%d: %d", i, err)
		}
	}
}

// TestFailedBlock holds P18.5: a block that fails is cleared, and in the table then.
func TestFailedBlock(t *testing.T) {
	c, k := made(t, small)
	told(t, "Write", k.Write(Write{0, bytes("a")}), api.OK)
	b := k.stream.Open()
	c.Wreck(b)
	told(t, "Write", k.Write(Write{1, bytes("b")}), api.OK)
	if s := k.Stat(); s.Bad != 1 || s.Read || k.Worn()[b] != -1 || k.places.Live(b) != 0 {
		t.Errorf("Stat %v", s)
	}
	k, err := Mount(c, small)
	told(t, "Mount", err, api.OK)
	for n, want := range []string{"a", "b"} {
		if s, err := k.Read(n); s != bytes(want) || err != api.OK {
			t.Errorf("Read(%d): %x, %d", n, s, err)
		}
	}
}

// TestAgain: a disk in whose Write the power was cut is written again, without a mount, when it is on.
func TestAgain(t *testing.T) {
	for cut := 1; cut < 8; cut++ {
		m := newModel(t, config(11, 10, 0, 31, 4, 6), 5)
		for range 5 {
			l := m.batch()
			told(t, "Write", m.k.Write(l...), api.OK)
			m.done(l)
		}
		l := m.batch()
		m.c.Fuse(cut, "\x00\x01")
		err := m.k.Write(l...)
		m.c.On()
		if err == api.OK {
			m.done(l)
			l = nil
		}
		m.verify(l)
		last := []Write{{30, bytes("x")}}
		told(t, "Write", m.k.Write(last...), api.OK)
		m.done(last)
		m.verify(nil)
		m.mount(0)
		m.verify(nil)
	}
}
