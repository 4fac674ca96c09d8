package pool

import (
	"math"
	"testing"

	"tillroll/api"
)

func told(t *testing.T, what string, err, want api.Errno) {
	t.Helper()
	if err != want {
		t.Errorf("%s: %d, not %d", what, err, want)
	}
}

// worn: a pool of free blocks with these wears.
func worn(t *testing.T, wears ...int) *Pool {
	t.Helper()
	p, err := New(len(wears))
	told(t, "New", err, api.OK)
	for b, n := range wears {
		told(t, "Worn", p.Worn(b, n), api.OK)
	}
	return p
}

// TestNew holds P11.1.
func TestNew(t *testing.T) {
	for _, n := range []int{1, 256} {
		p := worn(t, make([]int, n)...)
		low, high := p.Spread()
		if p.Count(Free) != n || p.Count(Used) != 0 || p.Count(Bad) != 0 || low != 0 || high != 0 || p.State(n-1) != Free || p.State(n) != 0 {
			t.Errorf("a pool of %d", n)
		}
	}
	for _, n := range []int{0, -1, 257, math.MinInt, math.MaxInt} {
		if p, err := New(n); p != nil || err != api.ErrArg {
			t.Errorf("New(%d): %d", n, err)
		}
	}
	if Free != 1 || Used != 2 || Bad != 3 {
		t.Error("the states")
	}
}

// TestSet holds P11.1: states, wears, and blocks that there aren't.
func TestSet(t *testing.T) {
	p := worn(t, 0, 7, 0)
	for _, b := range []int{-1, 3, math.MinInt, math.MaxInt} {
		told(t, "Set", p.Set(b, 9), api.ErrRange)
		told(t, "Worn", p.Worn(b, -1), api.ErrRange)
		if p.State(b) != 0 || p.Wear(b) != 0 {
			t.Errorf("block %d", b)
		}
	}
	for _, s := range []State{0, 4, -1, math.MinInt, math.MaxInt} {
		told(t, "Set", p.Set(1, s), api.ErrArg)
	}
	told(t, "Worn", p.Worn(1, -1), api.ErrArg)
	told(t, "Worn", p.Worn(1, math.MinInt), api.ErrArg)
	if p.State(1) != Free || p.Wear(1) != 7 {
		t.Error("a refused call changed something")
	}
	for _, s := range []State{Used, Used, Free, Bad} {
		told(t, "Set", p.Set(1, s), api.OK)
		if p.State(1) != s || p.State(0) != Free {
			t.Errorf("%d, not %d", p.State(1), s)
		}
	}
	for _, s := range []State{Free, Used, Bad} {
		told(t, "Set", p.Set(1, s), api.ErrBad)
	}
	told(t, "Set", p.Set(1, 9), api.ErrArg)
	told(t, "Worn", p.Worn(1, math.MaxInt), api.OK)
	if p.State(1) != Bad || p.Wear(1) != math.MaxInt {
		t.Error("a bad block")
	}
}

// TestTake holds P11.2: the least worn and the most worn free block, the first one of the same.
func TestTake(t *testing.T) {
	for _, x := range []struct {
		take func(*Pool) (int, api.Errno)
		want []int
	}{
		{(*Pool).Take, []int{4, 1, 2, 0, 3}}, {(*Pool).Most, []int{0, 3, 1, 2, 4}},
	} {
		p := worn(t, 5, 2, 2, 5, 0, 9)
		told(t, "Set", p.Set(5, Bad), api.OK)
		for _, want := range x.want {
			if b, err := x.take(p); b != want || err != api.OK || p.State(b) != Used {
				t.Errorf("block %d, %d, not %d", b, err, want)
			}
		}
		if b, err := x.take(p); b != 0 || err != api.ErrSpace {
			t.Errorf("none is free: %d, %d", b, err)
		}
		told(t, "Set", p.Set(2, Free), api.OK)
		if b, err := x.take(p); b != 2 || err != api.OK {
			t.Errorf("%d, %d", b, err)
		}
	}
	p := worn(t, 2, 1, 1)
	if b, _ := p.Take(); b != 1 {
		t.Errorf("Take is %d", b)
	}
}

// TestSpread holds P11.3.
func TestSpread(t *testing.T) {
	p := worn(t, 4, 9, 1, 6)
	for i, x := range []struct{ block, low, high, bad int }{{2, 4, 9, 1}, {1, 4, 6, 2}, {0, 6, 6, 3}, {3, 0, 0, 4}} {
		told(t, "Set", p.Set(x.block, Bad), api.OK)
		low, high := p.Spread()
		if low != x.low || high != x.high || p.Count(Bad) != x.bad || p.Count(Free) != 4-x.bad {
			t.Errorf("%d: %d to %d, %d bad, %d free", i, low, high, p.Count(Bad), p.Count(Free))
		}
	}
	if p.Count(0) != 0 || p.Count(9) != 0 || p.Count(-1) != 0 {
		t.Error("Count of no state")
	}
}

// TestSpreadFrom0 holds P11.3: the least wear may be 0, wherever it is.
func TestSpreadFrom0(t *testing.T) {
	for _, l := range [][]int{{0, 5, 3}, {5, 0, 3}, {5, 3, 0}} {
		if low, high := worn(t, l...).Spread(); low != 0 || high != 5 {
			t.Errorf("%v: %d to %d", l, low, high)
		}
	}
}

// TestNone holds the words on a nil pool.
func TestNone(t *testing.T) {
	var p *Pool
	told(t, "Set", p.Set(9, 9), api.ErrNil)
	told(t, "Worn", p.Worn(9, -1), api.ErrNil)
	a, err := p.Take()
	told(t, "Take", err, api.ErrNil)
	b, err := p.Most()
	told(t, "Most", err, api.ErrNil)
	low, high := p.Spread()
	if p.State(0) != 0 || p.Wear(0) != 0 || p.Count(Free) != 0 || a != 0 || b != 0 || low != 0 || high != 0 {
		t.Error("a nil pool")
	}
}
