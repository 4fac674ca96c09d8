package journal

import (
	"slices"
	"strings"
	"testing"

	"tillroll/api"
	"tillroll/be"
	"tillroll/disk"
	"tillroll/geo"
	"tillroll/nand"
	"tillroll/poly"
	"tillroll/rec"
)

// small: pages of 32 bytes, so 22 of the log each.
var small = geo.Config{Shape: nand.Shape{Blocks: 12, Pages: 6, Size: 32}, Spares: 1, Logical: 12, Batch: 3, Level: 4}

func told(t *testing.T, what string, err, want api.Errno) {
	t.Helper()
	if err != want {
		t.Errorf("%s: %d, not %d", what, err, want)
	}
}

func newDisk(t *testing.T, g geo.Config) (*nand.Chip, *disk.Disk) {
	t.Helper()
	c, _ := nand.New(g.Shape, nil)
	told(t, "Format", disk.Format(c, g), api.OK)
	k, err := disk.Mount(c, g)
	told(t, "Mount", err, api.OK)
	return c, k
}

// set is a journal that was formatted and opened.
type set struct {
	c *nand.Chip
	k *disk.Disk
	p Plan
	j *Journal
}

func newSet(t *testing.T, snap int, snapshot string) *set {
	t.Helper()
	c, k := newDisk(t, small)
	p := Plan{snap}
	told(t, "Format", Format(k, p, snapshot), api.OK)
	x := &set{c, k, p, nil}
	x.opens(t, 0, snapshot, nil)
	return x
}

// opens: what is opened is this; it is gone on with.
func (x *set) opens(t *testing.T, epoch uint64, snapshot string, l []rec.Record) {
	t.Helper()
	j, s, got, err := Open(x.k, x.p)
	if err != api.OK || s != snapshot || !slices.Equal(got, l) || j.Epoch() != epoch {
		t.Fatalf("opened %d: %x, %v, %d; not %d: %x, %v", j.Epoch(), s, got, err, epoch, snapshot, l)
	}
	x.j = j
}

func r(n int, s string) rec.Record { return rec.Record{Kind: uint8(n), Body: s} }

func many(s string, n int) string { return strings.Repeat(s, n) }

// TestCheck holds P20.1: what a plan may be.
func TestCheck(t *testing.T) {
	_, k := newDisk(t, small)
	told(t, "nil", Plan{}.Check(nil), api.ErrNil)
	for snap, want := range map[int]api.Errno{1: api.OK, 5: api.OK, 6: api.ErrArg, 0: api.ErrArg, -1: api.ErrArg, -1 << 63: api.ErrArg, 1<<63 - 1: api.ErrArg, 1 << 62: api.ErrArg} {
		told(t, "Check", Plan{snap}.Check(k), want)
		if want != api.OK {
			told(t, "Format", Format(k, Plan{snap}, ""), want)
			j, s, l, err := Open(k, Plan{snap})
			if j != nil || s != "" || l != nil || err != want {
				t.Errorf("Open: %d", err)
			}
		}
	}
	told(t, "nil", Format(nil, Plan{}, ""), api.ErrNil)
	if _, _, _, err := Open(nil, Plan{}); err != api.ErrNil {
		t.Errorf("Open: %d", err)
	}
	if j, s, l, err := Open(k, Plan{2}); j != nil || s != "" || l != nil || err != api.ErrNone {
		t.Errorf("Open of no journal: %d", err)
	}
}

// TestFormat holds P20.1: the pages that are written, and their bytes.
func TestFormat(t *testing.T) {
	_, k := newDisk(t, small)
	told(t, "long", Format(k, Plan{4}, many("a", 129)), api.ErrLong)
	if k.Stat().Seq != 0 {
		t.Error("a refused call wrote something")
	}
	told(t, "Format", Format(k, Plan{4}, many("a", 100)), api.OK)
	for n, want := range map[int]string{0: be.Put(0, 8) + be.Put(100, 4) + many("\x00", 20), 1: many("a", 32), 3: many("a", 32), 4: many("a", 4) + many("\x00", 28)} {
		if s, err := k.Read(n); s != want || err != api.OK {
			t.Errorf("page %d: %x, %d", n, s, err)
		}
	}
	if s := k.Stat(); s.Live != 5 || s.Seq != 3 {
		t.Errorf("%v", s)
	}
	for _, s := range []string{"", many("b", 32), many("b", 128)} {
		newSet(t, 4, s)
	}
}

// TestAppend holds P20.2 and P20.3: records behind the others, and what room is left.
func TestAppend(t *testing.T) {
	x := newSet(t, 4, "snap")
	room := 3 * 22
	if x.j.Room() != room || x.j.Most() != 128 {
		t.Errorf("Room %d, Most %d", x.j.Room(), x.j.Most())
	}
	var all []rec.Record
	for _, l := range [][]rec.Record{{r(1, "")}, {r(2, "abcdefgh")}, {r(3, "x")}, {r(4, ""), r(5, "")}, {r(6, "abcdefg")}} {
		told(t, "Append", x.j.Append(l...), api.OK)
		all = append(all, l...)
		for _, y := range l {
			room -= y.Size()
		}
		if x.j.Room() != room {
			t.Errorf("Room %d, not %d", x.j.Room(), room)
		}
		was := x.j
		x.opens(t, 0, "snap", all)
		if was.Room() != x.j.Room() || was.tail != x.j.tail {
			t.Errorf("Room %d, %d", was.Room(), x.j.Room())
		}
	}
	told(t, "full", x.j.Append(r(1, many("a", room-6))), api.ErrFull)
	told(t, "Append", x.j.Append(r(1, many("a", room-7))), api.OK)
	if x.j.Room() != 0 {
		t.Errorf("Room %d", x.j.Room())
	}
	told(t, "full", x.j.Append(r(1, "")), api.ErrFull)
	x.opens(t, 0, "snap", append(all, r(1, many("a", room-7))))
}

// TestAppendWrites holds P20.3: just the pages that get other bytes, by one Write.
func TestAppendWrites(t *testing.T) {
	x := newSet(t, 1, "")
	for _, y := range []struct{ size, batches, live int }{{22, 1, 2}, {7, 1, 3}, {15 + 22, 1, 4}, {10, 1, 5}} {
		before := x.k.Stat()
		told(t, "Append", x.j.Append(r(1, many("a", y.size-7))), api.OK)
		if s := x.k.Stat(); s.Seq != before.Seq+1 || s.Live != y.live {
			t.Errorf("%d bytes: %v", y.size, s)
		}
	}
	if s, _ := x.k.Read(3); s[:10] != "\x00\x00\x00\x00\x00\x00\x00\x00\x00\x16" {
		t.Errorf("page 3: %x", s)
	}
	if s, _ := x.k.Read(6); s[:10] != "\x00\x00\x00\x00\x00\x00\x00\x00\x00\x0a" || s[20:] != many("\x00", 12) {
		t.Errorf("page 6: %x", s)
	}
}

// TestAppendWrong holds P20.3: the order of errors, and that nothing is changed by one.
func TestAppendWrong(t *testing.T) {
	var none *Journal
	told(t, "nil", none.Append(), api.ErrNil)
	told(t, "nil", none.Renew(""), api.ErrNil)
	if none.Epoch() != 0 || none.Room() != 0 || none.Most() != 0 {
		t.Error("a nil journal")
	}
	x := newSet(t, 1, "s")
	told(t, "Append", x.j.Append(r(1, "abc")), api.OK)
	seq, room := x.k.Stat().Seq, x.j.Room()
	told(t, "empty", x.j.Append(), api.ErrArg)
	told(t, "wrong", x.j.Append(r(1, "a"), r(0, "")), api.ErrArg)
	told(t, "wrong", x.j.Append(r(1, many("a", 2049))), api.ErrArg)
	told(t, "full", x.j.Append(r(1, many("a", 2000))), api.ErrFull)
	told(t, "long", x.j.Append(r(1, many("a", 3*22-10-7+1))), api.ErrLong)
	if x.k.Stat().Seq != seq || x.j.Room() != room {
		t.Error("a refused call changed something")
	}
	told(t, "Append", x.j.Append(r(1, many("a", 3*22-10-7))), api.OK)
}

// TestRenew holds P20.3: the next epoch, in the other area, without records.
func TestRenew(t *testing.T) {
	x := newSet(t, 4, "zero")
	snapshot := "zero"
	for epoch := uint64(1); epoch < 6; epoch++ {
		told(t, "Append", x.j.Append(r(int(epoch), many("a", int(epoch)*9))), api.OK)
		x.opens(t, epoch-1, snapshot, []rec.Record{r(int(epoch), many("a", int(epoch)*9))})
		snapshot = many(string(rune('a'+epoch)), int(epoch)*25)
		told(t, "Renew", x.j.Renew(snapshot), api.OK)
		if x.j.Epoch() != epoch || x.j.Room() != 66 {
			t.Errorf("epoch %d, Room %d", x.j.Epoch(), x.j.Room())
		}
		x.opens(t, epoch, snapshot, nil)
	}
	told(t, "long", x.j.Renew(many("a", 129)), api.ErrLong)
	x.opens(t, 5, snapshot, nil)
	told(t, "Renew", x.j.Renew(many("m", 128)), api.OK)
	x.opens(t, 6, many("m", 128), nil)
	told(t, "Renew", x.j.Renew(""), api.OK)
	x.opens(t, 7, "", nil)
	x.j.epoch = 1<<64 - 1
	told(t, "long", x.j.Renew(many("a", 129)), api.ErrLong)
	told(t, "full", x.j.Renew(""), api.ErrFull)
}

// TestForm holds P20.1: pages that aren't such as they must be.
func TestForm(t *testing.T) {
	table := poly.Make()
	good, _ := rec.Frame(&table, r(1, many("a", 15)))
	log := func(epoch uint64, used int, s string) string {
		return padded(be.Put(epoch, 8)+be.Put(uint64(used), 2)+s, 32)
	}
	root := func(epoch uint64, n int) string { return padded(be.Put(epoch, 8)+be.Put(uint64(n), 4), 32) }
	for i, x := range []struct {
		page int
		data string
		want api.Errno
	}{
		{0, root(0, 64), api.OK}, {0, root(0, 65), api.ErrForm}, {0, root(0, 33), api.ErrForm}, {0, root(2, 36), api.OK}, {0, root(1, 40), api.ErrNone}, {0, root(1, 0), api.OK},
		{0, root(0, 36)[:31] + "\x01", api.ErrForm}, {0, root(0, 1<<32-1), api.ErrForm},
		{2, many("s", 4) + many("\x00", 28), api.OK}, {2, many("s", 4) + many("\x00", 27) + "\x01", api.ErrForm}, {2, many("s", 5) + many("\x00", 27), api.ErrForm},
		{5, log(0, 22, good), api.OK}, {5, log(0, 0, ""), api.ErrForm}, {5, log(0, 23, good), api.ErrForm}, {5, log(0, 65535, good), api.ErrForm}, {5, log(0, 21, good), api.ErrForm},
		{5, log(0, 21, good[:21]), api.ErrForm}, {5, log(7, 0, good), api.OK}, {5, log(0, 22, good[:21]+"\x01"), api.ErrSum}, {6, log(0, 0, ""), api.OK},
	} {
		c, k := newDisk(t, small)
		told(t, "Format", Format(k, Plan{2}, many("s", 36)), api.OK)
		told(t, "Write", k.Write(disk.Write{Logical: x.page, Data: x.data}), api.OK)
		j, s, l, err := Open(k, Plan{2})
		if err != x.want || err != api.OK && (j != nil || s != "" || l != nil) {
			t.Errorf("%d: %d, not %d", i, err, x.want)
		}
		c.Fuse(1, "")
		c.Erase(0)
		if _, _, _, err := Open(k, Plan{2}); err != api.ErrPower {
			t.Errorf("off: %d", err)
		}
	}
}

// TestLogEnd holds the words on the log: it ends at the first page that isn't used whole, or of another epoch.
func TestLogEnd(t *testing.T) {
	_, k := newDisk(t, small)
	told(t, "Format", Format(k, Plan{2}, ""), api.OK)
	table := poly.Make()
	s, _ := rec.Frame(&table, r(1, many("a", 30)), r(2, many("b", 8)))
	page := func(epoch uint64, part string) string {
		return padded(be.Put(epoch, 8)+be.Put(uint64(len(part)), 2)+part, 32)
	}
	for i, part := range []string{s[:22], s[22:44], s[44:52]} {
		told(t, "Write", k.Write(disk.Write{Logical: 5 + i, Data: page(0, part)}), api.OK)
	}
	x := &set{k: k, p: Plan{2}}
	told(t, "Write", k.Write(disk.Write{Logical: 8, Data: page(0, s[:7])}), api.OK)
	x.opens(t, 0, "", []rec.Record{r(1, many("a", 30)), r(2, many("b", 8))})
	told(t, "Write", k.Write(disk.Write{Logical: 6, Data: page(1, s[22:44])}), api.OK)
	if _, _, _, err := Open(k, Plan{2}); err != api.ErrForm {
		t.Errorf("a log that isn't whole records: %d", err)
	}
}

// life is some calls on a journal; it ends at the first error. After each call it tells what is on the disk then.
func life(j *Journal, done func(snapshot string, l []rec.Record), under func(snapshot string, l []rec.Record)) api.Errno {
	snapshot, all := "begin", []rec.Record(nil)
	for i := range 9 {
		next, l := snapshot, slices.Clone(all)
		if i%4 == 3 {
			next, l = many(string(rune('a'+i)), 20*i), nil
			under(next, l)
			if err := j.Renew(next); err != api.OK {
				return err
			}
		} else {
			more := []rec.Record{r(i+1, many("r", 5*i)), r(i+1, "")}
			l = append(l, more...)
			under(next, l)
			if err := j.Append(more...); err != api.OK {
				return err
			}
		}
		snapshot, all = next, l
		done(snapshot, all)
	}
	return api.OK
}

// TestCuts holds P20.4: wherever the power is cut, what was told is there, and of the call under way all, or nothing.
func TestCuts(t *testing.T) {
	g := small
	g.Logical = 20
	g.Shape.Blocks = 14
	for _, torn := range []string{"", "\x00\x01", "xyz"} {
		for cut := 1; cut < 300; cut++ {
			c, k := newDisk(t, g)
			p := Plan{6}
			told(t, "Format", Format(k, p, "begin"), api.OK)
			j, _, _, _ := Open(k, p)
			snapshot, all := "begin", []rec.Record(nil)
			snapshot2, all2 := snapshot, all
			c.Fuse(cut, torn)
			err := life(j, func(s string, l []rec.Record) { snapshot, all = s, l }, func(s string, l []rec.Record) { snapshot2, all2 = s, l })
			if err == api.OK {
				break
			}
			told(t, "life", err, api.ErrPower)
			c.On()
			k, err = disk.Mount(c, g)
			told(t, "Mount", err, api.OK)
			j, s, l, err := Open(k, p)
			told(t, "Open", err, api.OK)
			if !(s == snapshot && slices.Equal(l, all)) && !(s == snapshot2 && slices.Equal(l, all2)) {
				t.Fatalf("cut %d: %q, %d records", cut, s, len(l))
			}
			told(t, "Append", j.Append(r(77, "on")), api.OK)
			_, s2, l2, err := Open(k, p)
			if s2 != s || !slices.Equal(l2, append(l, r(77, "on"))) || err != api.OK {
				t.Fatalf("cut %d: %q, %d records, %d", cut, s2, len(l2), err)
			}
		}
	}
}

// TestGoesOn: a journal in which the power was cut goes on, when it is on, with what lasts.
func TestGoesOn(t *testing.T) {
	for cut := 1; cut < 120; cut++ {
		x := newSet(t, 4, "begin")
		told(t, "Append", x.j.Append(r(1, many("a", 20))), api.OK)
		x.c.Fuse(cut, "\x00")
		var errs []api.Errno
		want := []rec.Record{r(1, many("a", 20))}
		for i := range 2 {
			err := x.j.Append(r(2+i, many("b", 5)))
			errs = append(errs, err)
			x.c.On()
			_, _, l, open := Open(x.k, x.p)
			told(t, "Open", open, api.OK)
			if err == api.OK {
				want = append(want, r(2+i, many("b", 5)))
			} else if len(l) > len(want) {
				want = append(want, r(2+i, many("b", 5)))
			}
			if !slices.Equal(l, want) {
				t.Fatalf("cut %d: %v, %v", cut, errs, l)
			}
		}
	}
}

// TestReadOnly holds P20.3: layer 18's error, and nothing is changed.
func TestReadOnly(t *testing.T) {
	g := small
	g.Spares = 0
	c, k := newDisk(t, g)
	told(t, "Format", Format(k, Plan{2}, "s"), api.OK)
	j, _, _, _ := Open(k, Plan{2})
	for b := range g.Shape.Blocks {
		c.Wreck(b)
	}
	told(t, "Append", j.Append(r(1, "a"), r(2, many("b", 30))), api.ErrRead)
	told(t, "Renew", j.Renew("x"), api.ErrRead)
	if j.Epoch() != 0 || j.Room() != 7*22 {
		t.Errorf("epoch %d, Room %d", j.Epoch(), j.Room())
	}
	if _, s, l, err := Open(k, Plan{2}); s != "s" || len(l) != 0 || err != api.OK {
		t.Errorf("%q, %v, %d", s, l, err)
	}
}
