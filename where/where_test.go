package where

import (
	"math"
	"slices"
	"testing"

	"tillroll/api"
)

func told(t *testing.T, what string, err, want api.Errno) {
	t.Helper()
	if err != want {
		t.Errorf("%s: %d, not %d", what, err, want)
	}
}

func newMap(t *testing.T) *Map {
	t.Helper()
	m, err := New(3, 4, 5)
	told(t, "New", err, api.OK)
	return m
}

// is: the map has just these logical pages, at these places.
func is(t *testing.T, m *Map, want map[int]Place) {
	t.Helper()
	pages := map[int][]int{}
	for logical := range 5 {
		p, ok := m.At(logical)
		w, there := want[logical]
		if p != w || ok != there {
			t.Errorf("%d is at %v, %v", logical, p, ok)
		}
		if there {
			pages[w.Block] = append(pages[w.Block], w.Page)
			if m.Owner(w) != logical {
				t.Errorf("%d is at %v, not %d", m.Owner(w), w, logical)
			}
		}
	}
	owned, live := 0, 0
	for b := range 3 {
		slices.Sort(pages[b])
		if m.Live(b) != len(pages[b]) || !slices.Equal(m.Of(b), pages[b]) {
			t.Errorf("block %d: %d live, %v", b, m.Live(b), m.Of(b))
		}
		live += m.Live(b)
		for p := range 4 {
			if m.Owner(Place{b, p}) >= 0 {
				owned++
			}
		}
	}
	if m.Total() != len(want) || live != len(want) || owned != len(want) {
		t.Errorf("%d somewhere, %d live, %d owned, not %d", m.Total(), live, owned, len(want))
	}
}

// TestNew holds P12.1.
func TestNew(t *testing.T) {
	for _, x := range [][3]int{{1, 1, 1}, {256, 64, 4096}} {
		if m, err := New(x[0], x[1], x[2]); m == nil || err != api.OK {
			t.Errorf("New(%v): %d", x, err)
		}
	}
	for _, x := range [][3]int{{0, 1, 1}, {1, 0, 1}, {1, 1, 0}, {257, 1, 1}, {1, 65, 1}, {1, 1, 4097}, {math.MinInt, 1, 1}, {1, math.MaxInt, 1}, {1, 1, -1}} {
		if m, err := New(x[0], x[1], x[2]); m != nil || err != api.ErrArg {
			t.Errorf("New(%v): %d", x, err)
		}
	}
	is(t, newMap(t), nil)
}

// TestPut holds P12.2 and P12.3: a logical page is at one place, and a place has one.
func TestPut(t *testing.T) {
	m := newMap(t)
	told(t, "Put", m.Put(3, Place{1, 2}), api.OK)
	is(t, m, map[int]Place{3: {1, 2}})
	told(t, "Put", m.Put(3, Place{0, 0}), api.OK)
	is(t, m, map[int]Place{3: {0, 0}})
	told(t, "again", m.Put(3, Place{0, 0}), api.OK)
	told(t, "Put", m.Put(4, Place{0, 3}), api.OK)
	told(t, "Put", m.Put(0, Place{2, 1}), api.OK)
	told(t, "there", m.Put(4, Place{2, 1}), api.ErrThere)
	told(t, "there", m.Put(1, Place{0, 0}), api.ErrThere)
	is(t, m, map[int]Place{0: {2, 1}, 3: {0, 0}, 4: {0, 3}})
	told(t, "Drop", m.Drop(3), api.OK)
	told(t, "Drop", m.Drop(3), api.OK)
	told(t, "Put", m.Put(1, Place{0, 0}), api.OK)
	is(t, m, map[int]Place{0: {2, 1}, 1: {0, 0}, 4: {0, 3}})
}

// TestRange holds P12.1 and P12.2: what there isn't.
func TestRange(t *testing.T) {
	m := newMap(t)
	told(t, "Put", m.Put(0, Place{0, 0}), api.OK)
	for _, l := range []int{-1, 5, math.MinInt, math.MaxInt} {
		told(t, "Put", m.Put(l, Place{0, 0}), api.ErrRange)
		told(t, "Drop", m.Drop(l), api.ErrRange)
		if p, ok := m.At(l); p != (Place{}) || ok {
			t.Errorf("At(%d): %v", l, p)
		}
	}
	for _, p := range []Place{{-1, 0}, {3, 0}, {0, -1}, {0, 4}, {math.MinInt, 0}, {0, math.MaxInt}} {
		told(t, "Put", m.Put(1, p), api.ErrRange)
		if m.Owner(p) != -1 {
			t.Errorf("Owner(%v)", p)
		}
	}
	for _, b := range []int{-1, 3, math.MinInt, math.MaxInt} {
		if m.Live(b) != 0 || len(m.Of(b)) != 0 {
			t.Errorf("block %d", b)
		}
	}
	is(t, m, map[int]Place{0: {0, 0}})
}

// TestNone holds the words on a nil map.
func TestNone(t *testing.T) {
	var m *Map
	told(t, "Put", m.Put(-1, Place{-1, -1}), api.ErrNil)
	told(t, "Drop", m.Drop(-1), api.ErrNil)
	if p, ok := m.At(0); p != (Place{}) || ok || m.Owner(Place{}) != -1 || m.Live(0) != 0 || len(m.Of(0)) != 0 || m.Total() != 0 {
		t.Error("a nil map")
	}
}

// TestMany holds P12.3 over many steps, against a plain map.
func TestMany(t *testing.T) {
	m, want := newMap(t), map[int]Place{}
	seed := uint32(7)
	for range 2000 {
		seed = seed*1664525 + 1013904223
		l, p := int(seed>>8)%5, Place{int(seed>>16) % 3, int(seed>>20) % 4}
		if seed>>29 == 0 {
			told(t, "Drop", m.Drop(l), api.OK)
			delete(want, l)
			continue
		}
		there := api.OK
		for o, q := range want {
			if o != l && q == p {
				there = api.ErrThere
			}
		}
		told(t, "Put", m.Put(l, p), there)
		if there == api.OK {
			want[l] = p
		}
	}
	is(t, m, want)
}
