package chart

import (
	"math"
	"slices"
	"strings"
	"testing"

	"tillroll/api"
	"tillroll/cur"
)

func told(t *testing.T, what string, err, want api.Errno) {
	t.Helper()
	if err != want {
		t.Errorf("%s: %d, not %d", what, err, want)
	}
}

func newChart(t *testing.T, l ...Account) *Chart {
	t.Helper()
	c := New()
	for _, a := range l {
		told(t, "Add", c.Add(a), api.OK)
	}
	return c
}

var cash, sales, rent = Account{1000, Asset, "Cash"}, Account{4000, Income, "Sales"}, Account{5000, Expense, "Rent"}

// TestRight holds P21.1: what an account may be.
func TestRight(t *testing.T) {
	for _, a := range []Account{{1, Asset, "a"}, {65535, Expense, strings.Repeat("a", 24)}, {7, Liability, " ~"}, {7, Equity, "a/b"}, {7, Income, "0"}} {
		if !a.Right() {
			t.Errorf("%v may not be", a)
		}
	}
	for _, a := range []Account{
		{}, {0, Asset, "a"}, {-1, Asset, "a"}, {65536, Asset, "a"}, {math.MinInt, Asset, "a"}, {math.MaxInt, Asset, "a"}, {1, 0, "a"}, {1, 6, "a"}, {1, 255, "a"}, {1, Asset, ""},
		{1, Asset, strings.Repeat("a", 25)}, {1, Asset, "a\x1f"}, {1, Asset, "\x7f"}, {1, Asset, "a\x00"}, {1, Asset, "\xff"}, {1, Asset, "\x80a"}, {1, Asset, "é"}, {1, Asset, "a\n"}, {1, Asset, strings.Repeat("a", 5000)},
	} {
		if a.Right() {
			t.Errorf("%v may be", a)
		}
		c := newChart(t, cash)
		told(t, "Add", c.Add(a), api.ErrArg)
		if len(c.List()) != 1 {
			t.Error("a refused call added something")
		}
	}
	if Asset != 1 || Expense != 5 {
		t.Error("the kinds")
	}
}

// TestAdd holds P21.1.
func TestAdd(t *testing.T) {
	c := newChart(t, rent, cash, sales)
	if !slices.Equal(c.List(), []Account{cash, sales, rent}) {
		t.Errorf("List %v", c.List())
	}
	told(t, "there", c.Add(Account{4000, Asset, "Other"}), api.ErrThere)
	told(t, "arg ahead", c.Add(Account{4000, Asset, ""}), api.ErrArg)
	if a, ok := c.Get(4000); a != sales || !ok {
		t.Errorf("Get %v", a)
	}
	for _, code := range []int{0, -1, 1, 65536, math.MinInt, math.MaxInt} {
		if a, ok := c.Get(code); a != (Account{}) || ok {
			t.Errorf("Get(%d): %v", code, a)
		}
	}
	c.List()[0].Name = "other"
	for n := len(c.List()); n < api.MaxAccounts; n++ {
		told(t, "Add", c.Add(Account{n, Asset, "a"}), api.OK)
	}
	told(t, "full", c.Add(Account{9, Asset, "a"}), api.ErrThere)
	told(t, "full", c.Add(Account{9999, Asset, "a"}), api.ErrFull)
	if a, _ := c.Get(1000); a != cash || len(c.List()) != api.MaxAccounts {
		t.Errorf("%v, %d accounts", a, len(c.List()))
	}
}

// TestCopy holds P21.1.
func TestCopy(t *testing.T) {
	a := newChart(t, cash)
	b := a.Copy()
	told(t, "Add", a.Add(sales), api.OK)
	told(t, "Add", b.Add(rent), api.OK)
	if !slices.Equal(a.List(), []Account{cash, sales}) || !slices.Equal(b.List(), []Account{cash, rent}) {
		t.Errorf("%v, %v", a.List(), b.List())
	}
	var none *Chart
	told(t, "nil", none.Add(Account{}), api.ErrNil)
	if a, ok := none.Get(1); a != (Account{}) || ok || len(none.List()) != 0 || none.Copy() != nil {
		t.Error("a nil chart")
	}
}

// TestWrite holds P21.2: the fields.
func TestWrite(t *testing.T) {
	var w cur.Writer
	newChart(t, sales, cash).Write(&w)
	(*Chart)(nil).Write(&w)
	New().Write(&w)
	New().Write(nil)
	if s, err := w.Bytes(); s != "\x02\x03\xe8\x01\x04Cash\x0f\xa0\x04\x05Sales\x00" || err != api.OK {
		t.Errorf("%x, %d", s, err)
	}
}

// TestRead holds P21.2: a chart comes back, and what is none's is told.
func TestRead(t *testing.T) {
	l := make([]Account, api.MaxAccounts)
	for i := range l {
		l[i] = Account{i*1000 + 1, Kind(1 + i%5), strings.Repeat("n", 1+i%24)}
	}
	for _, n := range []int{0, 1, 64} {
		var w cur.Writer
		newChart(t, l[:n]...).Write(&w)
		s, _ := w.Bytes()
		r := cur.Read(s + "ab")
		c, err := Read(r)
		if err != api.OK || !slices.Equal(c.List(), l[:n]) || r.Left() != 2 {
			t.Errorf("%d accounts: %d, %d left", n, err, r.Left())
		}
		for end := range len(s) {
			if c, err := Read(cur.Read(s[:end])); c != nil || err != api.ErrForm {
				t.Fatalf("the first %d bytes: %d", end, err)
			}
		}
	}
	for i, s := range []string{
		"", "\x41" + strings.Repeat("\x00\x01\x01\x01a", 65), "\x01\x00\x00\x01\x01a", "\x01\x00\x01\x00\x01a", "\x01\x00\x01\x06\x01a", "\x01\x00\x01\x01\x00", "\x01\x00\x01\x01\x01\x7f",
		"\x02\x00\x01\x01\x01a\x00\x01\x01\x01b", "\x02\x00\x02\x01\x01a\x00\x01\x01\x01b",
	} {
		r := cur.Read(s)
		if c, err := Read(r); c != nil || err != api.ErrForm || r.Left() != len(s) {
			t.Errorf("%d: %d, %d left", i, err, r.Left())
		}
	}
	wrong := cur.Read("\x00")
	wrong.Number(9)
	for _, r := range []*cur.Reader{nil, wrong} {
		if c, err := Read(r); c != nil || err != api.ErrForm {
			t.Errorf("no reader: %d", err)
		}
	}
}
