package disk

import (
	"testing"

	"tillroll/api"
)

// TestEveryCut holds P18.5: the power is cut at each place of some writes, and at each place of the mount behind it.
func TestEveryCut(t *testing.T) {
	for _, torn := range []string{"", "\x00\x01"} {
		for first := 1; first < 400; first++ {
			m := newModel(t, full(8, 4, 0, 2, 2), 3)
			m.c.Fuse(first, torn)
			under := m.until(14)
			if under == nil {
				break
			}
			for second := 1; second < 100; second++ {
				m.c.On()
				m.c.Fuse(second, torn)
				k, err := Mount(m.c, m.g)
				if err == api.OK {
					m.k = k
					break
				}
				told(t, "Mount", err, api.ErrPower)
			}
			m.c.Fuse(0, "")
			m.verify(under)
			if m.until(6) != nil {
				t.Error("a write is refused")
			}
			m.verify(nil)
		}
	}
}

// until: so many writes, or the one in which the power was cut.
func (m *model) until(n int) []Write {
	m.t.Helper()
	for range n {
		l := m.batch()
		switch err := m.k.Write(l...); err {
		case api.OK:
			m.done(l)
		case api.ErrPower:
			return l
		default:
			m.t.Fatalf("Write: %d, %v", err, m.k.Stat())
		}
	}
	return nil
}

// wreck: so many blocks fail from now on, some of them those that are in use just now.
func (m *model) wreck(n int) {
	for range n {
		b := m.rng.Intn(m.g.Shape.Blocks)
		tables := m.k.twin.Blocks()
		switch m.rng.Intn(4) {
		case 0:
			b = tables[m.rng.Intn(len(tables))]
		case 1:
			b = max(m.k.stream.Open(), 0)
		}
		m.c.Wreck(b)
	}
}

// TestLives holds P18.5: cuts, fails, trims and mounts in any order; no write is refused, and nothing is lost.
func TestLives(t *testing.T) {
	for ci, g := range configs {
		for seed := range int64(6) {
			m := newModel(t, g, int64(100*ci)+seed)
			left := g.Spares * int(seed%2)
			for range 250 {
				if left > 0 && m.rng.Intn(30) == 0 {
					n := 1 + m.rng.Intn(left)
					m.wreck(n)
					left -= n
				}
				m.c.Fuse(m.rng.Intn(60)-20, tears[m.rng.Intn(len(tears))])
				if under := m.until(1 + m.rng.Intn(4)); under != nil {
					m.mount(m.rng.Intn(20))
					m.verify(under)
				}
				if m.rng.Intn(10) == 0 {
					m.trim(m.rng.Intn(g.Logical))
				}
			}
			m.c.Fuse(0, "")
			m.verify(nil)
			m.mount(0)
			m.verify(nil)
		}
	}
}

// TestBounds holds P18.6: what a write and a mount ask of a chip, and how even the wear is.
func TestBounds(t *testing.T) {
	for ci, g := range configs {
		for hot := range 2 {
			m := newModel(t, g, int64(ci))
			asked := func() int { p, e := m.c.Count(); return p + e }
			for i := range 900 {
				before := asked()
				l := m.batch()
				if hot == 1 && i > 50 {
					l = []Write{{0, m.bytes(0)}}
				}
				told(t, "Write", m.k.Write(l...), api.OK)
				m.done(l)
				s := m.k.Stat()
				if n := asked() - before; n > g.Work() || s.High-s.Low > g.Level+g.Work() {
					t.Fatalf("%v: asked %d of %d; %v", g, n, g.Work(), s)
				}
				// What is aimed at is far less than what is promised.
				if s.High-s.Low > g.Level+4 {
					t.Fatalf("%v: %v", g, s)
				}
				if i%40 == 0 {
					before := asked()
					m.mount(0)
					if n := asked() - before; n > 4 {
						t.Fatalf("%v: a mount asks %d", g, n)
					}
					m.verify(nil)
				}
			}
		}
	}
}

// TestSpares holds P18.5: as many blocks fail at once as there are spares, whichever they are.
func TestSpares(t *testing.T) {
	g := full(12, 4, 3, 2, 3)
	for a := range g.Shape.Blocks {
		for b := range a {
			for c := range b {
				m := newModel(t, g, int64(a))
				m.until(20)
				for _, x := range []int{a, b, c} {
					m.c.Wreck(x)
				}
				if m.until(25) != nil {
					t.Fatal("cut")
				}
				m.mount(0)
				m.verify(nil)
			}
		}
	}
}
