package disk

import (
	"testing"

	"tillroll/api"
	"tillroll/drive"
	"tillroll/geo"
	"tillroll/pool"
	"tillroll/tag"
)

// TestEveryCut holds P18.5: the power is cut at each place of some writes, and at each place of the mount behind it.
func TestEveryCut(t *testing.T) {
	for _, torn := range []string{"", "\x00\x01"} {
		for first := 1; first < 400; first++ {
			m := newModel(t, full(8, 4, 0, 2, 2), 3)
			m.c.Fuse(first, torn)
			under := m.until(14)
			if under == nil {
				break
			}
			for second := 1; second < 100; second++ {
				m.c.On()
				m.c.Fuse(second, torn)
				k, err := Mount(m.c, m.g)
				if err == api.OK {
					m.k = k
					break
				}
				told(t, "Mount", err, api.ErrPower)
			}
			m.c.Fuse(0, "")
			m.verify(under)
			if m.until(6) != nil {
				t.Error("a write is refused")
			}
			m.verify(nil)
		}
	}
}

// until: so many writes, or the one in which the power was cut.
func (m *model) until(n int) []Write {
	m.t.Helper()
	for range n {
		l := m.batch()
		switch err := m.k.Write(l...); err {
		case api.OK:
			m.done(l)
		case api.ErrPower:
			return l
		default:
			m.t.Fatalf("Write: %d, %v", err, m.k.Stat())
		}
	}
	return nil
}

// wreck: so many blocks fail from now on, some of them those that are in use just now.
func (m *model) wreck(n int) {
	for range n {
		b := m.rng.Intn(m.g.Shape.Blocks)
		tables := m.k.twin.Blocks()
		switch m.rng.Intn(4) {
		case 0:
			b = tables[m.rng.Intn(len(tables))]
		case 1:
			b = max(m.k.stream.Open(), 0)
		}
		m.c.Wreck(b)
	}
}

// TestLives holds P18.5: cuts, fails, trims and mounts in any order; no write is refused, and nothing is lost.
func TestLives(t *testing.T) {
	for ci, g := range configs {
		for seed := range int64(6) {
			m := newModel(t, g, int64(100*ci)+seed)
			left := g.Spares * int(seed%2)
			for range 250 {
				if left > 0 && m.rng.Intn(30) == 0 {
					n := 1 + m.rng.Intn(left)
					m.wreck(n)
					left -= n
				}
				m.c.Fuse(m.rng.Intn(60)-20, tears[m.rng.Intn(len(tears))])
				if under := m.until(1 + m.rng.Intn(4)); under != nil {
					m.mount(m.rng.Intn(20))
					m.verify(under)
				}
				if m.rng.Intn(10) == 0 {
					m.trim(m.rng.Intn(g.Logical))
				}
			}
			m.c.Fuse(0, "")
			m.verify(nil)
			m.mount(0)
			m.verify(nil)
		}
	}
}

// emptyBlocks: how many blocks that aren't bad, nor the table's, have no page that a scan counts.
func (m *model) emptyBlocks() int {
	d, _ := drive.New(m.c)
	n := 0
	for b := range m.g.Shape.Blocks {
		has := m.k.hasTable(b) || m.k.pool.State(b) == pool.Bad
		for i := range m.g.Shape.Pages {
			p, _ := d.Read(b, i)
			has = has || p.State == drive.Tagged && p.Tag.Kind == tag.Data
		}
		if !has {
			n++
		}
	}
	return n
}

// TestGather: a block isn't in use, if all that it has is in others that are, too, as behind a clearing that was cut.
func TestGather(t *testing.T) {
	c, k := made(t, small)
	page := func(n int, seq uint64) tag.Tag { return tag.Tag{Kind: tag.Data, Logical: n, Seq: seq, Len: 1} }
	x, y, z := page(0, 1), page(1, 2), page(2, 3)
	for b, l := range map[int][]tag.Tag{3: {x}, 4: {y, x}, 6: {y}, 8: {x, z}} {
		told(t, "Erase", k.drive.Erase(b), api.OK)
		for _, p := range l {
			_, err := k.drive.Program(b, p, bytes("d"))
			told(t, "Program", err, api.OK)
		}
	}
	k, err := Mount(c, small)
	told(t, "Mount", err, api.OK)
	if s := k.Stat(); s.Live != 3 || s.Free != 10-2-2 || k.places.Live(3) != 0 {
		t.Errorf("Stat %v, %d in the block 3", s, k.places.Live(3))
	}
	told(t, "Audit", k.Audit(), api.OK)
	// Copies in a block that is known to be bad, or older ones, are none.
	c, k = made(t, small)
	for b, l := range map[int][]tag.Tag{3: {x, y}, 5: {page(1, 1), z, x}} {
		told(t, "Erase", k.drive.Erase(b), api.OK)
		for _, p := range l {
			_, err := k.drive.Program(b, p, bytes(string(rune('a'+p.Seq))))
			told(t, "Program", err, api.OK)
		}
	}
	k, err = Mount(c, small)
	told(t, "Mount", err, api.OK)
	if s, err := k.Read(1); s != bytes("c") || err != api.OK || k.Stat().Free != 10-2-2 {
		t.Errorf("%x, %d, %v", s, err, k.Stat())
	}
}

// TestManyCuts holds P18.5 where each mount is cut many times: what is free stays so, till the disk is mounted at last.
func TestManyCuts(t *testing.T) {
	for ci, g := range []geo.Config{full(10, 16, 1, 8, 16), full(8, 16, 1, 3, 3), full(7, 16, 0, 3, 3)} {
		for seed := range int64(12) {
			m := newModel(t, g, int64(1000*ci)+seed)
			left := g.Spares
			for range 120 {
				if m.rng.Intn(2) == 0 {
					m.c.Fuse(1+m.rng.Intn(40), tears[m.rng.Intn(len(tears))])
				}
				if under := m.until(1 + m.rng.Intn(3)); under != nil {
					m.c.On()
					if n, most := m.emptyBlocks(), 1+m.k.spares(); n < most {
						t.Fatalf("%v: %d blocks have no pages, not %d", g, n, most)
					}
					if left > 0 && m.rng.Intn(10) == 0 {
						m.wreck(left)
						left = 0
					}
					m.mount(m.rng.Intn(40))
					m.verify(under)
				}
			}
		}
	}
}

// TestBounds holds P18.6: what a write and a mount ask of a chip, and how even the wear is.
func TestBounds(t *testing.T) {
	for ci, g := range configs {
		for hot := range 2 {
			m := newModel(t, g, int64(ci))
			asked := func() int { p, e := m.c.Count(); return p + e }
			for i := range 900 {
				before := asked()
				l := m.batch()
				if hot == 1 && i > 50 {
					l = []Write{{0, m.bytes(0)}}
				}
				told(t, "Write", m.k.Write(l...), api.OK)
				m.done(l)
				s := m.k.Stat()
				if n := asked() - before; n > g.Work() || s.High-s.Low > g.Level+g.Work() {
					t.Fatalf("%v: asked %d of %d; %v", g, n, g.Work(), s)
				}
				// What is aimed at is far less than what is promised.
				if s.High-s.Low > g.Level+4 {
					t.Fatalf("%v: %v", g, s)
				}
				if i%40 == 0 {
					before := asked()
					m.mount(0)
					if n := asked() - before; n > 4 {
						t.Fatalf("%v: a mount asks %d", g, n)
					}
					m.verify(nil)
				}
			}
		}
	}
}

// TestSpares holds P18.5: as many blocks fail at once as there are spares, whichever they are.
func TestSpares(t *testing.T) {
	g := full(12, 4, 3, 2, 3)
	for a := range g.Shape.Blocks {
		for b := range a {
			for c := range b {
				m := newModel(t, g, int64(a))
				m.until(20)
				for _, x := range []int{a, b, c} {
					m.c.Wreck(x)
				}
				if m.until(25) != nil {
					t.Fatal("cut")
				}
				m.mount(0)
				m.verify(nil)
			}
		}
	}
}
