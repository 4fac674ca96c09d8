package geo

import (
	"math"
	"testing"

	"tillroll/api"
	"tillroll/nand"
)

func shape(blocks, pages, size int) nand.Shape {
	return nand.Shape{Blocks: blocks, Pages: pages, Size: size}
}

// TestRoom holds P7.1.
func TestRoom(t *testing.T) {
	for _, x := range []struct {
		s            nand.Shape
		spares       int
		each, wanted int
	}{
		{shape(8, 4, 32), 0, 3, 4}, {shape(8, 4, 32), 1, 3, 2}, {shape(8, 4, 32), 2, 3, 0}, {shape(8, 4, 32), 3, 3, 0}, {shape(8, 4, 32), 1000, 3, 0},
		{shape(8, 4, 32), math.MaxInt, 3, 0}, {shape(8, 4, 32), -1, 3, 0}, {shape(8, 4, 32), math.MinInt, 3, 0},
		{shape(256, 64, 1024), 0, 63, 250 * 62}, {shape(256, 64, 1024), 249, 63, 62}, {shape(200, 2, 64), 0, 1, 0}, {shape(4, 3, 64), 0, 2, 0}, {shape(7, 3, 64), 0, 2, 1},
		{shape(3, 4, 32), 0, 0, 0}, {shape(8, 1, 32), 0, 0, 0}, {shape(8, 4, 31), 0, 0, 0}, {nand.Shape{}, 0, 0, 0},
	} {
		if Each(x.s) != x.each || Room(x.s, x.spares) != x.wanted {
			t.Errorf("%v, %d: Each %d, Room %d", x.s, x.spares, Each(x.s), Room(x.s, x.spares))
		}
	}
	if Reserve != 3 || Tables != 2 {
		t.Error("the constants")
	}
}

// TestCheck holds P7.2: each bound of a config.
func TestCheck(t *testing.T) {
	base := Config{shape(12, 8, 32), 1, 20, 4, 4} // its room is 30
	for i, change := range []struct {
		with func(*Config)
		want api.Errno
	}{
		{func(c *Config) {}, api.OK},
		{func(c *Config) { c.Logical = 26 }, api.OK},
		{func(c *Config) { c.Logical = 27 }, api.ErrArg},
		{func(c *Config) { c.Batch = 10 }, api.OK},
		{func(c *Config) { c.Batch = 11 }, api.ErrArg},
		{func(c *Config) { c.Spares = 0 }, api.OK},
		{func(c *Config) { c.Spares = 2 }, api.OK},
		{func(c *Config) { c.Spares = 3 }, api.ErrArg},
		{func(c *Config) { c.Spares = -1 }, api.ErrArg},
		{func(c *Config) { c.Spares = math.MinInt }, api.ErrArg},
		{func(c *Config) { c.Spares = math.MaxInt }, api.ErrArg},
		{func(c *Config) { c.Logical = 0 }, api.ErrArg},
		{func(c *Config) { c.Logical = 1; c.Batch = 1 }, api.OK},
		{func(c *Config) { c.Batch = 0 }, api.ErrArg},
		{func(c *Config) { c.Logical = math.MaxInt; c.Batch = math.MaxInt }, api.ErrArg},
		{func(c *Config) { c.Logical = math.MinInt }, api.ErrArg},
		{func(c *Config) { c.Level = 1 }, api.ErrArg},
		{func(c *Config) { c.Level = 2 }, api.OK},
		{func(c *Config) { c.Level = 1 << 20 }, api.OK},
		{func(c *Config) { c.Level = 1<<20 + 1 }, api.ErrArg},
		{func(c *Config) { c.Shape.Size = 31 }, api.ErrArg},
		{func(c *Config) { c.Shape.Pages = 2 }, api.ErrArg},
		{func(c *Config) { c.Shape.Blocks = 192 }, api.OK},
		{func(c *Config) { c.Shape.Blocks = 193 }, api.ErrArg},
		{func(c *Config) { c.Shape = shape(256, 64, 1024); c.Logical = 4096; c.Batch = 64 }, api.OK},
		{func(c *Config) { c.Shape = shape(256, 64, 1024); c.Logical = 4097 }, api.ErrArg},
		{func(c *Config) { c.Shape = shape(256, 64, 1024); c.Batch = 65 }, api.ErrArg},
	} {
		c := base
		change.with(&c)
		if err := c.Check(); err != change.want {
			t.Errorf("%d: %v: %d", i, c, err)
		}
		work := 0
		if change.want == api.OK {
			work = 2*c.Shape.Pages*(c.Shape.Pages+c.Shape.Blocks) + 2*c.Shape.Pages*c.Batch
		}
		if c.Work() != work {
			t.Errorf("%d: Work %d, not %d", i, c.Work(), work)
		}
	}
	if (Config{}).Check() != api.ErrArg || (Config{}).Work() != 0 || base.Work() != 2*8*20+2*8*4 {
		t.Error("the zero config, or the base's work")
	}
}

// TestSpread holds P7.3: so many blocks can't all be too full to be won.
func TestSpread(t *testing.T) {
	for blocks := 4; blocks <= 40; blocks++ {
		for pages := 2; pages <= 12; pages++ {
			for spares := 0; spares <= 5; spares++ {
				s := shape(blocks, pages, 32)
				room := Room(s, spares)
				inUse := blocks - Tables - spares - Reserve
				if room > 0 && inUse*(pages-1) <= room {
					t.Errorf("%v, %d spares: %d live pages fill all", s, spares, room)
				}
			}
		}
	}
}
