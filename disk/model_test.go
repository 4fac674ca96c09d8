package disk

import (
	"math/rand"
	"strings"
	"testing"

	"tillroll/api"
	"tillroll/geo"
	"tillroll/nand"
)

// model is a disk, and what it must read.
type model struct {
	t     *testing.T
	c     *nand.Chip
	g     geo.Config
	k     *Disk
	rng   *rand.Rand
	want  []string         // each page's bytes; empty: none
	had   []map[string]int // all bytes that a page ever had
	loose []bool           // was it trimmed since it was written?
}

// tears are torn bytes, none of which are a tag's.
var tears = []string{"", "\x00", "\x01", "\x00\x01", "\x01\x00\x00", "torn bytes", "\x03\x02"}

func config(blocks, pages, spares, logical, batch, level int) geo.Config {
	return geo.Config{Shape: nand.Shape{Blocks: blocks, Pages: pages, Size: 32}, Spares: spares, Logical: logical, Batch: batch, Level: level}
}

// full: a config that uses all the room that there is.
func full(blocks, pages, spares, batch, level int) geo.Config {
	g := config(blocks, pages, spares, 0, batch, level)
	g.Logical = geo.Room(g.Shape, spares) - batch
	return g
}

var configs = []geo.Config{
	config(7, 4, 0, 1, 1, 2), full(7, 4, 0, 1, 2), full(8, 3, 0, 1, 2), full(9, 3, 1, 1, 2), full(12, 3, 3, 1, 2), config(14, 5, 3, 10, 5, 4), full(16, 5, 6, 3, 4),
	config(11, 10, 0, 31, 4, 6), full(13, 10, 2, 16, 4), full(24, 6, 8, 20, 4), full(10, 16, 1, 8, 16), full(40, 3, 4, 25, 2),
}

func told(t *testing.T, what string, err, want api.Errno) {
	t.Helper()
	if err != want {
		t.Errorf("%s: %d, not %d", what, err, want)
	}
}

// made: a chip, formatted and mounted.
func made(t *testing.T, g geo.Config, bad ...int) (*nand.Chip, *Disk) {
	t.Helper()
	c, _ := nand.New(g.Shape, bad)
	if err := Format(c, g); err != api.OK {
		t.Fatalf("Format: %d", err)
	}
	k, err := Mount(c, g)
	if err != api.OK {
		t.Fatalf("Mount: %d", err)
	}
	return c, k
}

func newModel(t *testing.T, g geo.Config, seed int64) *model {
	t.Helper()
	m := &model{t: t, g: g, rng: rand.New(rand.NewSource(seed))}
	m.c, m.k = made(t, g)
	m.want = make([]string, g.Logical)
	m.loose = make([]bool, g.Logical)
	for range g.Logical {
		m.had = append(m.had, map[string]int{"": 1})
	}
	return m
}

// bytes: a page's bytes that it didn't have yet.
func (m *model) bytes(n int) string {
	s := string([]byte{byte(n), byte(m.rng.Intn(256)), byte(m.rng.Intn(256)), byte(m.rng.Intn(256))})
	m.had[n][strings.Repeat(s, 8)]++
	return strings.Repeat(s, 8)
}

// batch: some pages to be written, of all, or of the first ones.
func (m *model) batch() []Write {
	span := m.g.Logical
	if m.rng.Intn(2) == 0 {
		span = max(1, span/3)
	}
	n := min(span, 1+m.rng.Intn(m.g.Batch))
	if m.rng.Intn(3) == 0 {
		n = min(span, m.g.Batch)
	}
	var l []Write
	for _, x := range m.rng.Perm(span)[:n] {
		l = append(l, Write{x, m.bytes(x)})
	}
	return l
}

// done: these pages were written.
func (m *model) done(l []Write) {
	for _, w := range l {
		m.want[w.Logical], m.loose[w.Logical] = w.Data, false
	}
}

func (m *model) trim(n int) {
	m.t.Helper()
	told(m.t, "Trim", m.k.Trim(n), api.OK)
	m.loose[n] = true
}

// mount: the power is on, and the disk is mounted; so often the power is cut in that, too.
func (m *model) mount(cuts int) {
	m.t.Helper()
	for ; ; cuts-- {
		m.c.On()
		if cuts > 0 {
			m.c.Fuse(1+m.rng.Intn(12), tears[m.rng.Intn(len(tears))])
		}
		k, err := Mount(m.c, m.g)
		m.k = k
		if err == api.OK {
			m.c.Fuse(0, "")
			return
		}
		if err != api.ErrPower {
			m.t.Fatalf("Mount: %d", err)
		}
	}
}

// is: may the page read so? A trimmed one may have any bytes that it had.
func (m *model) is(n int, s string) bool {
	return s == m.want[n] || m.loose[n] && m.had[n][s] > 0
}

// verify: each page reads as it must; those of a write under way all as they were, or all as they were to be.
func (m *model) verify(under []Write) {
	m.t.Helper()
	read := make([]string, m.g.Logical)
	for n := range read {
		s, err := m.k.Read(n)
		if err != api.OK && err != api.ErrNone {
			m.t.Fatalf("Read(%d): %d", n, err)
		}
		read[n] = s
	}
	old, now := true, len(under) > 0
	for _, w := range under {
		old = old && m.is(w.Logical, read[w.Logical])
		now = now && read[w.Logical] == w.Data
	}
	if now {
		m.done(under)
	} else if !old {
		m.t.Fatal("a write under way is there in part")
	}
	for n, s := range read {
		if !m.is(n, s) {
			m.t.Fatalf("page %d reads %x, not %x", n, s, m.want[n])
		}
	}
	told(m.t, "Audit", m.k.Audit(), api.OK)
	if m.c.Sins() != 0 {
		m.t.Fatalf("%d sins", m.c.Sins())
	}
}
