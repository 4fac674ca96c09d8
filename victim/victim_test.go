package victim

import (
	"math"
	"testing"

	"tillroll/pool"
	"tillroll/where"
)

// block is one of a pool: its state, its wear, and how many live pages it has.
type block struct {
	state pool.State
	wear  int
	live  int
}

func of(l ...block) (*pool.Pool, *where.Map) {
	p, _ := pool.New(len(l))
	m, _ := where.New(len(l), 8, 64)
	n := 0
	for b, x := range l {
		p.Set(b, x.state)
		p.Worn(b, x.wear)
		for i := range x.live {
			m.Put(n, where.Place{Block: b, Page: i})
			n++
		}
	}
	return p, m
}

const free, used, bad = pool.Free, pool.Used, pool.Bad

// TestChoose holds P15.1.
func TestChoose(t *testing.T) {
	for i, x := range []struct {
		l    []block
		skip []int
		want int
		ok   bool
	}{
		{[]block{{used, 0, 3}, {used, 0, 1}}, nil, 1, true},
		{[]block{{used, 0, 3}, {used, 9, 1}}, nil, 1, true},
		{[]block{{used, 5, 2}, {used, 4, 2}, {used, 4, 2}}, nil, 1, true},
		{[]block{{used, 5, 2}, {used, 4, 2}, {used, 4, 2}}, []int{1}, 2, true},
		{[]block{{used, 5, 2}, {used, 4, 2}, {used, 4, 2}}, []int{2, 1, 1, -1, 99, math.MinInt, math.MaxInt}, 0, true},
		{[]block{{used, 5, 2}, {used, 4, 2}}, []int{0, 1}, 0, false},
		{[]block{{free, 0, 0}, {bad, 0, 0}, {used, 9, 7}}, nil, 2, true},
		{[]block{{free, 0, 0}, {bad, 0, 0}}, nil, 0, false},
		{[]block{{used, 0, 0}}, nil, 0, true},
	} {
		p, m := of(x.l...)
		if b, ok := Choose(p, m, x.skip...); b != x.want || ok != x.ok {
			t.Errorf("%d: %d, %v", i, b, ok)
		}
	}
	p, m := of(block{used, 0, 0}, block{used, 0, 0})
	if b, ok := Choose(nil, m); b != 0 || ok {
		t.Error("no pool")
	}
	if b, ok := Choose(p, nil); b != 0 || ok {
		t.Error("no map")
	}
}

// TestCold holds P15.2.
func TestCold(t *testing.T) {
	for i, x := range []struct {
		l     []block
		level int
		skip  []int
		want  int
		ok    bool
	}{
		{[]block{{used, 9, 0}, {used, 5, 0}, {used, 5, 0}}, 4, nil, 1, true},
		{[]block{{used, 9, 0}, {used, 5, 0}}, 5, nil, 0, false},
		{[]block{{used, 6, 0}, {used, 5, 0}}, 1, nil, 1, true},
		{[]block{{free, 9, 0}, {used, 5, 0}}, 4, nil, 1, true},
		{[]block{{bad, 9, 0}, {used, 5, 0}}, 1, nil, 0, false},
		{[]block{{used, 9, 0}, {free, 5, 0}, {used, 5, 0}}, 4, nil, 0, false},
		{[]block{{used, 9, 0}, {used, 5, 0}, {free, 5, 0}}, 4, nil, 1, true},
		{[]block{{used, 9, 0}, {bad, 1, 0}, {used, 5, 0}}, 4, nil, 2, true},
		{[]block{{used, 9, 0}, {used, 1, 0}, {used, 5, 0}}, 4, []int{1, -7, 300}, 2, true},
		{[]block{{used, 9, 0}, {used, 1, 0}, {used, 5, 0}}, 5, []int{0}, 0, false},
		{[]block{{used, 9, 0}, {used, 1, 0}}, 1, []int{0, 1}, 0, false},
		{[]block{{bad, 9, 0}}, 1, nil, 0, false},
		{[]block{{used, 9, 0}, {used, 1, 0}}, 0, nil, 0, false},
		{[]block{{used, 9, 0}, {used, 1, 0}}, math.MinInt, nil, 0, false},
		{[]block{{used, 9, 0}, {used, 1, 0}}, math.MaxInt, nil, 0, false},
		{[]block{{used, math.MaxInt, 0}, {used, 0, 0}}, math.MaxInt, nil, 1, true},
		{[]block{{used, 3, 0}}, 1, nil, 0, false},
	} {
		p, _ := of(x.l...)
		if b, ok := Cold(p, x.level, x.skip...); b != x.want || ok != x.ok {
			t.Errorf("%d: %d, %v", i, b, ok)
		}
	}
	if b, ok := Cold(nil, 1); b != 0 || ok {
		t.Error("no pool")
	}
}

// TestShort holds P15.3.
func TestShort(t *testing.T) {
	p, _ := of(block{free, 0, 0}, block{used, 0, 0}, block{free, 0, 0}, block{bad, 0, 0})
	for reserve, want := range map[int]bool{0: false, 1: false, 2: false, 3: true, math.MinInt: false, math.MaxInt: true} {
		if Short(p, reserve) != want {
			t.Errorf("Short of %d", reserve)
		}
	}
	if Short(nil, 1) {
		t.Error("no pool")
	}
}
