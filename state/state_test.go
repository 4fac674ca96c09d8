package state

import (
	"math"
	"reflect"
	"strings"
	"testing"

	"tillroll/api"
	"tillroll/cents"
	"tillroll/chart"
	"tillroll/post"
	"tillroll/sale"
	"tillroll/shift"
)

const cash, goods, returns, bank = 1000, 4000, 4100, 1200

var config = Config{Keep: 6, Keys: 4, Shifts: 2, Cash: cash, Returns: returns}

func told(t *testing.T, what string, err, want api.Errno) {
	t.Helper()
	if err != want {
		t.Errorf("%s: %d, not %d", what, err, want)
	}
}

func lines(l ...int) post.Posting {
	var p post.Posting
	for i := 0; i < len(l); i += 2 {
		p = append(p, post.Line{Account: l[i], Amount: cents.Cents(l[i+1])})
	}
	return p
}

func account(code int) Event {
	return Event{Kind: Account, Account: chart.Account{Code: code, Kind: chart.Asset, Name: "a"}}
}

func sold(key uint64, n int) Event {
	return Event{Kind: Sale, Key: key, Lines: lines(cash, n, goods, -n)}
}

// tester is a state, and what is told of it.
type tester struct {
	*testing.T
	s *State
}

func (x tester) text() string {
	x.Helper()
	s, err := x.s.Text()
	told(x.T, "Text", err, api.OK)
	return s
}

// does: an event has this number, or this error, by which nothing happens.
func (x tester) does(e Event, body string, want int, wanted api.Errno) {
	x.Helper()
	before := x.text()
	r, err := x.s.Apply(e, body)
	if r.Number != want || err != wanted || r.Totals != (shift.Totals{}) {
		x.Errorf("Apply(%v, %q): %v, %d, not %d, %d", e, body, r, err, want, wanted)
	}
	if err != api.OK && x.text() != before {
		x.Errorf("Apply(%v): something happened beside an error", e)
	}
	d, c, err := x.s.Books().Trial()
	if d != c || err != api.OK && err != api.ErrOver {
		x.Errorf("%d, but %d, %d", d, c, err)
	}
}

// opened: a state with accounts, and an open shift.
func opened(t *testing.T) tester {
	t.Helper()
	s, err := New(config)
	told(t, "New", err, api.OK)
	x := tester{t, s}
	for _, code := range []int{cash, goods, returns, bank} {
		x.does(account(code), "", code, api.OK)
	}
	x.does(Event{Kind: Start}, "", 1, api.OK)
	return x
}

func (x tester) balances(l ...int) {
	x.Helper()
	got := []int{}
	for _, e := range x.s.Books().List() {
		got = append(got, e.Account, int(e.Amount))
	}
	if !reflect.DeepEqual(got, append([]int{}, l...)) {
		x.Errorf("balances %v, not %v", got, l)
	}
}

// TestConfig holds P27.1.
func TestConfig(t *testing.T) {
	for _, c := range []Config{config, {1, 1, 1, 1, 65535}, {api.MaxSales, api.MaxKeys, 64, 65535, 1}} {
		if s, err := New(c); s == nil || err != api.OK || !c.Right() {
			t.Errorf("%v: %d", c, err)
		}
	}
	for _, c := range []Config{
		{}, {0, 1, 1, 1, 2}, {1, 0, 1, 1, 2}, {1, 1, 0, 1, 2}, {api.MaxSales + 1, 1, 1, 1, 2}, {1, api.MaxKeys + 1, 1, 1, 2}, {1, 1, 65, 1, 2}, {1, 1, 1, 0, 2}, {1, 1, 1, 1, 0}, {1, 1, 1, 65536, 2}, {1, 1, 1, 1, 65536}, {1, 1, 1, 5, 5},
		{math.MinInt, 1, 1, 1, 2}, {1, 1, 1, math.MinInt, math.MaxInt},
	} {
		if s, err := New(c); s != nil || err != api.ErrArg || c.Right() {
			t.Errorf("%v: %d", c, err)
		}
		if s, err := Parse(c, ""); s != nil || err != api.ErrArg {
			t.Errorf("Parse by %v: %d", c, err)
		}
	}
	var none *State
	if none.Chart() != nil || none.Books() != nil || none.Keys() != nil || none.Register() != nil || none.Shifts() != nil || none.Copy() != nil {
		t.Error("a nil state")
	}
	r, err := none.Apply(Event{}, "")
	told(t, "Apply", err, api.ErrNil)
	s, err := none.Text()
	told(t, "Text", err, api.ErrNil)
	if r != (Result{}) || s != "" || Account != 1 || Post != 9 {
		t.Error("a nil state, or the kinds")
	}
}

// TestAccounts holds P27.2: accounts and shifts.
func TestAccounts(t *testing.T) {
	x := opened(t)
	for _, k := range []Kind{0, 10, 255} {
		x.does(Event{Kind: k}, "", 0, api.ErrArg)
	}
	x.does(account(0), "", 0, api.ErrArg)
	x.does(account(cash), "", 0, api.ErrThere)
	x.does(Event{Kind: Start}, "", 0, api.ErrShift)
	for code := 1; code <= 60; code++ {
		x.does(account(code), strings.Repeat("b", 999), code, api.OK)
	}
	x.does(account(61), "", 0, api.ErrFull)
	x.does(sold(1, 500), "", 1, api.OK)
	r, err := x.s.Apply(Event{Kind: End}, "")
	if r != (Result{1, shift.Totals{Count: 1, Sales: 500}}) || err != api.OK {
		t.Errorf("End: %v, %d", r, err)
	}
	x.does(Event{Kind: End}, "", 0, api.ErrShift)
	x.does(Event{Kind: Start}, "", 2, api.OK)
}

// TestKeys holds P27.3: what is asked again by a key, or otherwise.
func TestKeys(t *testing.T) {
	x := opened(t)
	long := strings.Repeat("b", 255)
	x.does(sold(7, 500), long+"b", 0, api.ErrLong)
	x.does(sold(7, 500), long, 1, api.OK)
	before := x.text()
	x.does(sold(7, 500), long, 1, api.OK)
	x.does(Event{Kind: Void, Key: 7, Ref: 99}, long, 1, api.OK)
	if x.text() != before {
		t.Error("something happened again")
	}
	x.does(sold(7, 500), "other", 0, api.ErrKey)
	x.does(sold(7, 500), long+"b", 0, api.ErrLong)
	for key := range uint64(4) {
		x.does(sold(key, 1), "", int(key)+2, api.OK)
	}
	x.does(sold(7, 500), long, 6, api.OK)
	x.balances(cash, 1004, goods, -1004)
}

// TestShift holds P27.3: without a shift nothing but what a kept key tells.
func TestShift(t *testing.T) {
	x := opened(t)
	x.does(sold(1, 500), "a", 1, api.OK)
	if _, err := x.s.Apply(Event{Kind: End}, ""); err != api.OK {
		t.Errorf("End: %d", err)
	}
	x.does(sold(1, 500), "a", 1, api.OK)
	x.does(sold(1, 500), "b", 0, api.ErrKey)
	for k := Sale; k <= Post; k++ {
		x.does(Event{Kind: k, Key: 2}, "", 0, api.ErrShift)
	}
}

// TestSale holds P27.3: sales and postings.
func TestSale(t *testing.T) {
	x := opened(t)
	max := int(api.MaxCents)
	for i, e := range []struct {
		kind Kind
		l    post.Posting
		want api.Errno
	}{
		{Sale, nil, api.ErrArg}, {Sale, lines(cash, 0, goods, 0), api.ErrArg}, {Sale, lines(cash, 5, 9, -5), api.ErrAccount}, {Sale, lines(cash, 5, goods, -4), api.ErrUneven}, {Sale, lines(cash, -5, goods, 5), api.ErrArg}, {Sale, lines(bank, 5, goods, -5), api.ErrArg},
		{Sale, lines(cash, 5, cash, -5), api.ErrArg}, {Sale, lines(cash, max, cash, 1, goods, -max, goods, -1), api.ErrArg}, {Sale, lines(cash, math.MaxInt, cash, 1, goods, -math.MaxInt, goods, -1), api.ErrOver}, {Sale, lines(cash, math.MaxInt, goods, -math.MaxInt), api.ErrArg},
		{Post, nil, api.ErrArg}, {Post, lines(bank, 5, 9, -5), api.ErrAccount}, {Post, lines(bank, 5, goods, -4), api.ErrUneven},
	} {
		x.does(Event{Kind: e.kind, Key: uint64(i), Lines: e.l}, "", 0, e.want)
	}
	x.does(Event{Kind: Sale, Key: 1, Ref: 77, Amount: -3, Lines: lines(cash, 700, bank, 100, goods, -800)}, "", 1, api.OK)
	x.does(Event{Kind: Post, Key: 2, Ref: 77, Amount: -3, Lines: lines(bank, 9, goods, -9)}, "", 2, api.OK)
	x.does(Event{Kind: Sale, Key: 3, Lines: lines(cash, max, goods, -max)}, "", 3, api.OK)
	want := []sale.Tx{
		{Number: 1, Kind: sale.Sale, Shift: 1, Amount: 700, Left: 700, Lines: lines(cash, 700, bank, 100, goods, -800)}, {Number: 2, Kind: sale.Post, Shift: 1, Lines: lines(bank, 9, goods, -9)},
		{Number: 3, Kind: sale.Sale, Shift: 1, Amount: api.MaxCents, Left: api.MaxCents, Lines: lines(cash, max, goods, -max)},
	}
	if l := x.s.Register().List(); !reflect.DeepEqual(l, want) {
		t.Errorf("%v", l)
	}
	x.balances(cash, max+700, bank, 109, goods, -max-809)
	// The books, or the shift, refuse: nothing happens.
	x.does(Event{Kind: Sale, Key: 4, Lines: lines(cash, max, goods, -max)}, "", 0, api.ErrOver)
	x.does(Event{Kind: Out, Key: 5, Amount: api.MaxCents, Account: chart.Account{Code: bank}}, "", 4, api.OK)
	x.does(Event{Kind: Sale, Key: 6, Lines: lines(cash, max-700, goods, -1, bank, 701-max)}, "", 0, api.ErrOver)
	if got, _ := x.s.Shifts().Totals(1); got != (shift.Totals{Count: 4, Sales: api.MaxCents + 700, Out: api.MaxCents}) {
		t.Errorf("%v", got)
	}
}

// TestMoved holds P27.3: refunds, and what is put in and taken out.
func TestMoved(t *testing.T) {
	x := opened(t)
	x.does(sold(1, 500), "", 1, api.OK)
	for i, n := range []cents.Cents{0, -1, math.MinInt64, api.MaxCents + 1, math.MaxInt64} {
		for _, k := range []Kind{Refund, In, Out} {
			x.does(Event{Kind: k, Key: uint64(100 + i), Ref: 99, Amount: n}, "", 0, api.ErrArg)
		}
	}
	x.does(Event{Kind: In, Key: 2, Amount: 5, Account: chart.Account{Code: 9}}, "", 0, api.ErrAccount)
	x.does(Event{Kind: Out, Key: 2, Amount: 5}, "", 0, api.ErrAccount)
	x.does(Event{Kind: Refund, Key: 2, Ref: 2, Amount: 5}, "", 0, api.ErrNone)
	x.does(Event{Kind: Refund, Key: 2, Ref: 0, Amount: 5}, "", 0, api.ErrArg)
	x.does(Event{Kind: Refund, Key: 2, Ref: 1, Amount: 501}, "", 0, api.ErrLeft)
	x.does(Event{Kind: Refund, Key: 2, Ref: 1, Amount: 200, Account: chart.Account{Code: bank}, Lines: lines(1, 1)}, "", 2, api.OK)
	x.does(Event{Kind: In, Key: 3, Ref: 7, Amount: 30, Account: chart.Account{Code: bank}}, "", 3, api.OK)
	x.does(Event{Kind: Out, Key: 4, Ref: 7, Amount: 4, Account: chart.Account{Code: bank}}, "", 4, api.OK)
	x.balances(cash, 326, bank, -26, goods, -500, returns, 200)
	want := []sale.Tx{
		{Number: 1, Kind: sale.Sale, Shift: 1, Amount: 500, Left: 300, Lines: lines(cash, 500, goods, -500)}, {Number: 2, Kind: sale.Refund, Shift: 1, Ref: 1, Amount: 200, Lines: lines(cash, -200, returns, 200)},
		{Number: 3, Kind: sale.In, Shift: 1, Amount: 30, Lines: lines(cash, 30, bank, -30)}, {Number: 4, Kind: sale.Out, Shift: 1, Amount: 4, Lines: lines(cash, -4, bank, 4)},
	}
	if l := x.s.Register().List(); !reflect.DeepEqual(l, want) {
		t.Errorf("%v", l)
	}
	if got, _ := x.s.Shifts().Totals(1); got != (shift.Totals{Count: 4, Sales: 500, Refunds: 200, Ins: 30, Out: 4}) {
		t.Errorf("%v", got)
	}
}

// TestVoid holds P27.3.
func TestVoid(t *testing.T) {
	x := opened(t)
	x.does(sold(1, 500), "", 1, api.OK)
	x.does(sold(2, 300), "", 2, api.OK)
	for i, ref := range []int{0, 3, -1, math.MinInt, math.MaxInt} {
		x.does(Event{Kind: Void, Key: uint64(10 + i), Ref: ref}, "", 0, api.ErrNone)
	}
	x.does(Event{Kind: Refund, Key: 3, Ref: 1, Amount: 200}, "", 3, api.OK)
	x.does(Event{Kind: Void, Key: 4, Ref: 1}, "", 0, api.ErrLeft)
	x.does(Event{Kind: Void, Key: 4, Ref: 3}, "", 0, api.ErrNone)
	x.does(Event{Kind: Void, Key: 4, Ref: 2, Amount: -9, Lines: lines(1, 1)}, "", 4, api.OK)
	x.does(Event{Kind: Void, Key: 5, Ref: 2}, "", 0, api.ErrVoid)
	x.does(Event{Kind: Refund, Key: 5, Ref: 2, Amount: 1}, "", 0, api.ErrVoid)
	x.balances(cash, 300, goods, -500, returns, 200)
	if tx, _ := x.s.Register().Get(4); !reflect.DeepEqual(tx, sale.Tx{Number: 4, Kind: sale.Void, Shift: 1, Ref: 2, Amount: 300, Lines: lines(cash, -300, goods, 300)}) {
		t.Errorf("%v", tx)
	}
	if got, _ := x.s.Shifts().Totals(1); got != (shift.Totals{Count: 4, Sales: 800, Voids: 300, Refunds: 200}) {
		t.Errorf("%v", got)
	}
	// A line with the least amount has no contra one.
	x.does(Event{Kind: Sale, Key: 6, Lines: lines(cash, 5, bank, math.MinInt, goods, math.MaxInt, goods, -4)}, "", 5, api.OK)
	x.does(Event{Kind: Void, Key: 7, Ref: 5}, "", 0, api.ErrOver)
}

// TestCopies holds P27.1: parts and copies have nothing to do with the state.
func TestCopies(t *testing.T) {
	x := opened(t)
	x.does(sold(1, 500), "a", 1, api.OK)
	before := x.text()
	x.s.Chart().Add(chart.Account{Code: 9, Kind: chart.Asset, Name: "n"})
	x.s.Books().Apply(lines(cash, 1))
	x.s.Register().Add(sale.Tx{Kind: sale.Sale, Shift: 1, Amount: 1})
	x.s.Shifts().End()
	other := tester{t, x.s.Copy()}
	other.does(sold(2, 300), "b", 2, api.OK)
	other.does(account(9), "", 9, api.OK)
	if x.text() != before {
		t.Error("the state changed")
	}
	x.does(Event{Kind: Void, Key: 3, Ref: 1}, "c", 2, api.OK)
	if l := other.s.Register().List(); l[0].Void || l[0].Left != 500 {
		t.Errorf("%v", l)
	}
}

// TestText holds P27.4: the fields, and what comes back of them.
func TestText(t *testing.T) {
	s, _ := New(config)
	if text, err := s.Text(); text != "\x00\x00\x00\x00\x00\x00\x00\x00\x01\x00\x00\x00\x00\x00\x00\x01\x00\x00" || err != api.OK {
		t.Errorf("%x, %d", text, err)
	}
	x := opened(t)
	x.does(sold(1, 500), "a", 1, api.OK)
	text := x.text()
	for end := range len(text) {
		if s, err := Parse(config, text[:end]); s != nil || err != api.ErrForm {
			t.Fatalf("the first %d bytes: %d", end, err)
		}
	}
	if s, err := Parse(config, text+"\x00"); s != nil || err != api.ErrForm {
		t.Errorf("a byte more: %d", err)
	}
	x.does(sold(2, 300), "b", 2, api.OK)
	few := config
	few.Keep = 1
	if s, err := Parse(few, x.text()); s != nil || err != api.ErrForm {
		t.Errorf("too many transactions: %d", err)
	}
	few = config
	few.Keys = 1
	if s, err := Parse(few, x.text()); s != nil || err != api.ErrForm {
		t.Errorf("too many keys: %d", err)
	}
}

// TestBehind holds P27.5: a state does behind Text and Parse what it would have done.
func TestBehind(t *testing.T) {
	x := opened(t)
	seed := uint32(5)
	roll := func(n int) int { seed = seed*1664525 + 1013904223; return int(seed>>8) % n }
	for i := range 600 {
		e := Event{Kind: Kind(2 + roll(8)), Key: uint64(roll(40)), Ref: i/2 + roll(8) - 6, Amount: cents.Cents(roll(300)), Account: chart.Account{Code: bank}}
		n := 1 + roll(500)
		e.Lines = lines(cash, n, goods, -n)
		if e.Kind == End && roll(4) > 0 {
			e.Kind = Sale
		}
		body := string(rune('a' + roll(2)))
		y, err := Parse(config, x.text())
		told(t, "Parse", err, api.OK)
		r1, err1 := x.s.Apply(e, body)
		r2, err2 := y.Apply(e, body)
		text, _ := y.Text()
		if r1 != r2 || err1 != err2 || text != x.text() {
			t.Fatalf("%v: %v, %d; %v, %d", e, r1, err1, r2, err2)
		}
		if d, c, err := x.s.Books().Trial(); d != c || err != api.OK {
			t.Fatalf("%d, but %d, %d", d, c, err)
		}
	}
}
