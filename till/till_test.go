package till

import (
	"math"
	"math/rand"
	"reflect"
	"strings"
	"testing"

	"tillroll/api"
	"tillroll/cents"
	"tillroll/chart"
	"tillroll/disk"
	"tillroll/geo"
	"tillroll/journal"
	"tillroll/nand"
	"tillroll/post"
	"tillroll/rec"
	"tillroll/req"
	"tillroll/sale"
	"tillroll/shift"
	"tillroll/state"
)

const cash, returns, goods, bank = 1, 2, 3, 4

func config() Config {
	return Config{
		Disk:  geo.Config{Shape: nand.Shape{Blocks: 11, Pages: 10, Size: 128}, Logical: 31, Batch: 4, Level: 6},
		Snap:  12,
		State: state.Config{Keep: 6, Keys: 4, Shifts: 3, Cash: cash, Returns: returns},
	}
}

func told(t *testing.T, what string, err, want api.Errno) {
	t.Helper()
	if err != want {
		t.Errorf("%s: %d, not %d", what, err, want)
	}
}

func made(t *testing.T, g Config) (*nand.Chip, *Till) {
	t.Helper()
	c, _ := nand.New(g.Disk.Shape, nil)
	told(t, "Format", Format(c, g), api.OK)
	return c, mounted(t, c, g)
}

func mounted(t *testing.T, c *nand.Chip, g Config) *Till {
	t.Helper()
	x, err := Mount(c, g)
	if err != api.OK {
		t.Fatalf("Mount: %d", err)
	}
	return x
}

func text(s *state.State) string {
	x, _ := s.Text()
	return x
}

func lines(l ...int) post.Posting {
	var p post.Posting
	for i := 0; i < len(l); i += 2 {
		p = append(p, post.Line{Account: l[i], Amount: cents.Cents(l[i+1])})
	}
	return p
}

func account(code int) req.Request {
	return req.Request{Kind: req.Kind(state.Account), Event: state.Event{Account: chart.Account{Code: code, Kind: chart.Asset, Name: "a"}}}
}

func sold(key uint64, n int) req.Request {
	return req.Request{Kind: req.Kind(state.Sale), Event: state.Event{Key: key, Lines: lines(cash, n, goods, -n)}}
}

func of(k state.Kind, e state.Event) req.Request { return req.Request{Kind: req.Kind(k), Event: e} }

// begin: the requests by which a till has accounts, and an open shift.
func begin() []req.Request {
	return []req.Request{account(cash), account(returns), account(goods), account(bank), of(state.Start, state.Event{})}
}

func opened(t *testing.T, g Config) (*nand.Chip, *Till) {
	t.Helper()
	c, x := made(t, g)
	for _, q := range begin() {
		if r := x.Ask(q); r.Err != api.OK {
			t.Fatalf("Ask: %d", r.Err)
		}
	}
	return c, x
}

func asks(t *testing.T, x *Till, q req.Request, want req.Reply) {
	t.Helper()
	if r := x.Ask(q); !reflect.DeepEqual(r, want) {
		t.Errorf("Ask(%v) = %v, not %v", q, r, want)
	}
}

// TestFormat holds P29.1: the errors of Format and Mount, in order.
func TestFormat(t *testing.T) {
	g := config()
	c, _ := nand.New(g.Disk.Shape, nil)
	wrongState, wrongDisk, wrongSnap, longSnap := g, g, g, g
	wrongState.State.Cash = 0
	wrongDisk.Disk.Logical = 0
	wrongSnap.Snap = 0
	longSnap.Snap = 15
	told(t, "state", Format(nil, wrongState), api.ErrArg)
	told(t, "nil", Format(nil, wrongSnap), api.ErrNil)
	told(t, "disk", Format(c, wrongDisk), api.ErrArg)
	for _, snap := range []int{0, -1, 15, math.MinInt, math.MaxInt} {
		wrongSnap.Snap = snap
		told(t, "snap", Format(c, wrongSnap), api.ErrArg)
	}
	if p, e := c.Count(); p != 0 || e != 0 {
		t.Error("a refused call made something")
	}
	longSnap.Snap = 14
	told(t, "Format", Format(c, longSnap), api.OK)
	for what, y := range map[string]struct {
		c    *nand.Chip
		g    Config
		want api.Errno
	}{"state": {nil, wrongState, api.ErrArg}, "nil": {nil, g, api.ErrNil}, "disk": {c, wrongDisk, api.ErrArg}, "snap": {c, wrongSnap, api.ErrArg}} {
		if x, err := Mount(y.c, y.g); x != nil || err != y.want {
			t.Errorf("%s: %d", what, err)
		}
	}
	c, _ = nand.New(g.Disk.Shape, nil)
	if x, err := Mount(c, g); x != nil || err != api.ErrNone {
		t.Errorf("a new chip: %d", err)
	}
	told(t, "disk.Format", disk.Format(c, g.Disk), api.OK)
	if x, err := Mount(c, g); x != nil || err != api.ErrNone {
		t.Errorf("no journal: %d", err)
	}
	c.Fuse(1, "")
	told(t, "cut", Format(c, g), api.ErrPower)
	told(t, "off", Format(c, wrongSnap), api.ErrPower)
	c, _ = nand.New(g.Disk.Shape, []int{3})
	told(t, "bad", Format(c, g), api.ErrRead)
}

// TestMountForm holds P29.1: what lasts isn't a till's.
func TestMountForm(t *testing.T) {
	g := config()
	start, _ := of(state.Start, state.Event{}).Encode()
	status, _ := req.Request{Kind: req.Status}.Encode()
	empty, _ := state.New(g.State)
	for i, x := range []struct {
		snapshot string
		l        []rec.Record
		want     api.Errno
	}{
		{text(empty), []rec.Record{{Kind: 1, Body: start}}, api.OK}, {text(empty) + "\x00", nil, api.ErrForm}, {"", nil, api.ErrForm}, {text(empty), []rec.Record{{Kind: 2, Body: start}}, api.ErrForm},
		{text(empty), []rec.Record{{Kind: 1, Body: status}}, api.ErrForm}, {text(empty), []rec.Record{{Kind: 1, Body: "\x00"}}, api.ErrForm}, {text(empty), []rec.Record{{Kind: 1, Body: start}, {Kind: 1, Body: start}}, api.ErrForm},
	} {
		c, _ := nand.New(g.Disk.Shape, nil)
		told(t, "Format", disk.Format(c, g.Disk), api.OK)
		k, _ := disk.Mount(c, g.Disk)
		told(t, "Format", journal.Format(k, g.plan(), x.snapshot), api.OK)
		j, _, _, _ := journal.Open(k, g.plan())
		for _, r := range x.l {
			told(t, "Append", j.Append(r), api.OK)
		}
		if y, err := Mount(c, g); err != x.want || (y != nil) != (err == api.OK) {
			t.Errorf("%d: %d, not %d", i, err, x.want)
		}
	}
}

// TestQueries holds P29.2.
func TestQueries(t *testing.T) {
	_, x := opened(t, config())
	asks(t, x, req.Request{Kind: req.Status}, req.Reply{Number: 1, Tx: sale.Tx{Number: 1}})
	asks(t, x, sold(1, 500), req.Reply{Number: 1})
	asks(t, x, of(state.Refund, state.Event{Key: 2, Ref: 1, Amount: 200}), req.Reply{Number: 2})
	asks(t, x, req.Request{Kind: req.Balance, N: cash}, req.Reply{Amounts: [2]cents.Cents{300, 0}})
	for _, n := range []int{9, 0, -1, math.MinInt, math.MaxInt} {
		asks(t, x, req.Request{Kind: req.Balance, N: n}, req.Reply{})
		asks(t, x, req.Request{Kind: req.Tx, N: n}, req.Reply{Err: api.ErrNone})
		asks(t, x, req.Request{Kind: req.Totals, N: n}, req.Reply{Err: api.ErrNone})
	}
	asks(t, x, req.Request{Kind: req.Tx, N: 1, Event: state.Event{Kind: state.End}}, req.Reply{Tx: sale.Tx{Kind: sale.Sale, Shift: 1, Amount: 500, Left: 300, Lines: lines(cash, 500, goods, -500)}})
	asks(t, x, req.Request{Kind: req.Totals, N: 1}, req.Reply{Totals: shift.Totals{Count: 2, Sales: 500, Refunds: 200}})
	asks(t, x, req.Request{Kind: req.Trial}, req.Reply{Amounts: [2]cents.Cents{500, 500}})
	asks(t, x, req.Request{Kind: req.Status}, req.Reply{Number: 1, Tx: sale.Tx{Number: 3}})
	asks(t, x, of(state.End, state.Event{}), req.Reply{Number: 1, Totals: shift.Totals{Count: 2, Sales: 500, Refunds: 200}})
	asks(t, x, req.Request{Kind: req.Status}, req.Reply{Tx: sale.Tx{Number: 3}})
	asks(t, x, of(state.Start, state.Event{}), req.Reply{Number: 2})
	asks(t, x, of(state.Post, state.Event{Key: 8, Lines: lines(bank, math.MaxInt, cash, -math.MaxInt)}), req.Reply{Number: 3})
	asks(t, x, req.Request{Kind: req.Trial}, req.Reply{Err: api.ErrOver})
	told(t, "Audit", x.Audit(), api.OK)
	for k := range 256 {
		if k < 1 || k > 14 {
			asks(t, x, req.Request{Kind: req.Kind(k)}, req.Reply{Err: api.ErrArg})
		}
		asks(t, nil, req.Request{Kind: req.Kind(k)}, req.Reply{Err: api.ErrNil})
	}
}

// TestChanges holds P29.3: layer 27's answers, and what is recorded.
func TestChanges(t *testing.T) {
	g := config()
	c, x := opened(t, g)
	was := x.journal.Room()
	asks(t, x, sold(7, 500), req.Reply{Number: 1})
	room := x.journal.Room()
	body, _ := sold(7, 500).Encode()
	if was-room != len(body)+7 {
		t.Errorf("%d bytes were recorded", was-room)
	}
	asks(t, x, sold(7, 500), req.Reply{Number: 1})
	asks(t, x, sold(7, 501), req.Reply{Err: api.ErrKey})
	asks(t, x, account(cash), req.Reply{Err: api.ErrThere})
	asks(t, x, account(-1), req.Reply{Err: api.ErrArg})
	asks(t, x, of(state.Void, state.Event{Key: 8, Ref: -1}), req.Reply{Err: api.ErrArg})
	asks(t, x, of(state.Void, state.Event{Key: 8, Ref: 9}), req.Reply{Err: api.ErrNone})
	asks(t, x, of(state.Start, state.Event{Kind: state.End}), req.Reply{Err: api.ErrShift})
	asks(t, x, of(state.Sale, state.Event{Key: 9, Lines: make(post.Posting, 9)}), req.Reply{Err: api.ErrArg})
	if x.journal.Room() != room {
		t.Error("a refused request was recorded")
	}
	y := mounted(t, c, g)
	if text(x.State()) != text(y.State()) {
		t.Error("another state behind a mount")
	}
	asks(t, y, sold(7, 500), req.Reply{Number: 1})
	asks(t, y, of(state.Void, state.Event{Key: 8, Ref: 1}), req.Reply{Number: 2})
	told(t, "Audit", y.Audit(), api.OK)
}

// TestParts holds P29.1 of State and Disk, and of a nil till.
func TestParts(t *testing.T) {
	var none *Till
	if none.State() != nil || none.Disk() != nil {
		t.Error("a nil till")
	}
	told(t, "Audit", none.Audit(), api.ErrNil)
	_, x := opened(t, config())
	before := text(x.State())
	x.State().Apply(state.Event{Kind: state.End}, "")
	if text(x.State()) != before || x.Disk().Config() != config().Disk {
		t.Error("State isn't a copy, or Disk another one")
	}
}

// TestRenew holds P29.3: when the log is full, a snapshot stands for it.
func TestRenew(t *testing.T) {
	g := config()
	c, x := opened(t, g)
	for i := range 200 {
		asks(t, x, sold(uint64(i), 100+i), req.Reply{Number: i + 1})
		if i%37 == 0 {
			told(t, "Audit", x.Audit(), api.OK)
			was := text(x.State())
			x = mounted(t, c, g)
			if text(x.State()) != was {
				t.Fatal("another state behind a mount")
			}
		}
	}
	if x.journal.Epoch() == 0 {
		t.Error("the journal wasn't renewed")
	}
}

// TestSpace holds P29.3: a state that has no room any more, and what isn't refused then.
func TestSpace(t *testing.T) {
	g := config()
	g.Snap = 1
	g.Disk.Logical = 5
	g.State = state.Config{Keep: 500, Keys: 64, Shifts: 3, Cash: cash, Returns: returns}
	c, x := opened(t, g)
	n := 0
	for ; x.Ask(sold(uint64(n), 5)).Err == api.OK; n++ {
	}
	if n < 2 {
		t.Errorf("%d sales", n)
	}
	before := text(x.State())
	asks(t, x, sold(99, 5), req.Reply{Err: api.ErrSpace})
	asks(t, x, sold(uint64(n-1), 5), req.Reply{Number: n})
	asks(t, x, sold(uint64(n-1), 6), req.Reply{Err: api.ErrKey})
	if text(x.State()) != before || text(mounted(t, c, g).State()) != before {
		t.Error("something happened")
	}
	told(t, "Audit", x.Audit(), api.OK)
	// A record that no journal of this plan has room for.
	g.Disk.Logical = 4
	g.Disk.Batch = 1
	g.Disk.Shape.Size = 32
	g.Disk.Shape.Blocks = 16
	c, x = made(t, g)
	asks(t, x, account(1), req.Reply{Number: 1})
	asks(t, x, of(state.Start, state.Event{}), req.Reply{Number: 1})
	long := account(5)
	long.Event.Account.Name = strings.Repeat("n", 24)
	asks(t, x, long, req.Reply{Err: api.ErrSpace})
	told(t, "Audit", x.Audit(), api.OK)
	mounted(t, c, g)
}

// TestHandle holds P29.4.
func TestHandle(t *testing.T) {
	_, x := made(t, config())
	for s, want := range map[string]string{"\x02": "\x00\x00\x00\x00\x01", "": "\x04", "\x00": "\x04", "\x02\x00": "\x04", "\x0f": "\x04", "\x0d": "\x00" + strings.Repeat("\x00", 16), "\x0b\x00\x00\x00\x09": "\x0f"} {
		if got := x.Handle(s); got != want {
			t.Errorf("Handle(%x) = %x, not %x", s, got, want)
		}
	}
	var none *Till
	if s := none.Handle("\x02"); s != "\x01" {
		t.Errorf("a nil till: %x", s)
	}
}

// TestReadOnly holds P29.3 and P29.2: with the last spare gone what changes is refused, and queries are answered.
func TestReadOnly(t *testing.T) {
	g := config()
	c, x := opened(t, g)
	asks(t, x, sold(1, 500), req.Reply{Number: 1})
	for b := range g.Disk.Shape.Blocks {
		c.Wreck(b)
	}
	before := text(x.State())
	for i := range 3 {
		r := x.Ask(sold(uint64(2+i), 500))
		if r.Err == api.OK { // the batch was there when the last spare went
			before = text(x.State())
			continue
		}
		told(t, "Ask", r.Err, api.ErrRead)
	}
	if text(x.State()) != before {
		t.Error("something happened")
	}
	if r := x.Ask(req.Request{Kind: req.Status}); !r.Read {
		t.Errorf("Status %v", r)
	}
	asks(t, x, sold(1, 500), req.Reply{Number: 1})
	told(t, "Audit", x.Audit(), api.OK)
	if c.Sins() != 0 {
		t.Errorf("%d sins", c.Sins())
	}
}

// TestAudit holds P29.6: a state that isn't what lasts is told.
func TestAudit(t *testing.T) {
	g := config()
	c, x := opened(t, g)
	told(t, "Audit", x.Audit(), api.OK)
	x.state.Apply(state.Event{Kind: state.End}, "")
	told(t, "another state", x.Audit(), api.ErrForm)
	x = mounted(t, c, g)
	told(t, "Append", x.journal.Append(rec.Record{Kind: 7}), api.OK)
	told(t, "another record", x.Audit(), api.ErrForm)
	c.Fuse(1, "")
	c.Erase(0)
	told(t, "off", x.Audit(), api.ErrPower)
}

// life is some requests of all kinds.
func life(seed int64, n int) []req.Request {
	rng := rand.New(rand.NewSource(seed))
	l := begin()
	for i := range n {
		e := state.Event{Key: uint64(rng.Intn(60)), Ref: max(0, i/2+rng.Intn(8)-5), Amount: cents.Cents(rng.Intn(400)), Account: chart.Account{Code: bank}}
		switch rng.Intn(10) {
		case 0:
			l = append(l, of(state.Void, e))
		case 1, 2:
			l = append(l, of(state.Refund, e))
		case 3:
			l = append(l, of(state.In+state.Kind(rng.Intn(2)), e))
		case 4:
			if rng.Intn(3) == 0 {
				l = append(l, of(state.End, e), of(state.Start, e))
			}
		case 5:
			l = append(l, of(state.Post, state.Event{Key: e.Key, Lines: lines(bank, 7, goods, -7)}))
		default:
			l = append(l, sold(e.Key, 1+rng.Intn(500)))
		}
	}
	return l
}

var tears = []string{"", "\x00", "\x01\x00", "\x00\x01\x01", "torn bytes"}

// TestEveryCut holds P29.5: the power is cut at each place; a mount, cut at each place, too, knows what was answered, and perhaps the request under way.
func TestEveryCut(t *testing.T) {
	g := config()
	g.Snap = 3
	g.Disk.Logical = 10
	requests := life(1, 45)
	for cut := 1; cut < 2000; cut += 1 + cut/60 {
		c, x := made(t, g)
		c.Fuse(cut, tears[cut%len(tears)])
		before, under := text(x.State()), ""
		for _, q := range requests {
			next := x.State()
			s, _ := q.Encode()
			q.Event.Kind = state.Kind(q.Kind)
			next.Apply(q.Event, s)
			r := x.Ask(q)
			if r.Err == api.ErrPower {
				under = text(next)
				break
			}
			before = text(next)
		}
		if !c.Off() {
			return
		}
		for second := 1; ; second++ {
			c.On()
			c.Fuse(second, tears[second%len(tears)])
			y, err := Mount(c, g)
			if err == api.ErrPower {
				continue
			}
			c.Fuse(0, "")
			told(t, "Mount", err, api.OK)
			if s := text(y.State()); s != before && s != under {
				t.Fatalf("cut %d, %d: another state", cut, second)
			}
			told(t, "Audit", y.Audit(), api.OK)
			break
		}
		if c.Sins() != 0 {
			t.Fatalf("%d sins", c.Sins())
		}
	}
}

// TestLives holds P29.5: cuts and fails in any order; replies are those of the state alone.
func TestLives(t *testing.T) {
	for seed := range int64(12) {
		g := config()
		g.Disk.Spares = 2
		g.Disk.Shape.Blocks = 14
		rng := rand.New(rand.NewSource(seed))
		c, x := made(t, g)
		model, _ := state.New(g.State)
		wrecks := 0
		for _, q := range life(seed, 400) {
			if wrecks < g.Disk.Spares && rng.Intn(100) == 0 {
				c.Wreck(rng.Intn(g.Disk.Shape.Blocks))
				wrecks++
			}
			c.Fuse(rng.Intn(100)-60, tears[rng.Intn(len(tears))])
			s, _ := q.Encode()
			q.Event.Kind = state.Kind(q.Kind)
			next := model.Copy()
			want, err := next.Apply(q.Event, s)
			r := x.Ask(q)
			switch {
			case r.Err == api.ErrPower:
				for {
					c.On()
					c.Fuse(rng.Intn(20)-4, "\x00\x01")
					y, err := Mount(c, g)
					if err == api.OK {
						x = y
						break
					}
					told(t, "Mount", err, api.ErrPower)
				}
				c.Fuse(0, "")
				if text(x.State()) == text(next) {
					model = next
				}
			case r.Err != err || err == api.OK && (r.Number != want.Number || r.Totals != want.Totals):
				t.Fatalf("seed %d: %v, not %v, %d", seed, r, want, err)
			default:
				model = next
			}
			if text(x.State()) != text(model) {
				t.Fatalf("seed %d: another state", seed)
			}
			if rng.Intn(20) == 0 {
				c.Fuse(0, "")
				told(t, "Audit", x.Audit(), api.OK)
			}
		}
		if c.Sins() != 0 {
			t.Fatalf("%d sins", c.Sins())
		}
	}
}

// TestGoesOn: a till in which the power was cut goes on, when it is on, with what lasts.
func TestGoesOn(t *testing.T) {
	for cut := 1; cut < 12; cut++ {
		c, x := opened(t, config())
		c.Fuse(cut, "\x00")
		r := x.Ask(sold(1, 500))
		before := text(x.State())
		c.On()
		if r.Err == api.ErrPower && text(x.State()) != before {
			t.Error("something happened beside an error")
		}
		asks(t, x, sold(1, 500), req.Reply{Number: 1})
		asks(t, x, sold(2, 300), req.Reply{Number: 2})
		told(t, "Audit", x.Audit(), api.OK)
		if s := text(mounted(t, c, config()).State()); s != text(x.State()) {
			t.Error("another state behind a mount")
		}
	}
}
