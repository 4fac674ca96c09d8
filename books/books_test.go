package books

import (
	"math"
	"slices"
	"testing"

	"tillroll/api"
	"tillroll/cents"
	"tillroll/chart"
	"tillroll/cur"
	"tillroll/post"
)

const least, most = cents.Cents(math.MinInt64), cents.Cents(math.MaxInt64)

// p: a posting of accounts and amounts, by turns.
func p(l ...cents.Cents) post.Posting {
	var x post.Posting
	for i := 0; i < len(l); i += 2 {
		x = append(x, post.Line{Account: int(l[i]), Amount: l[i+1]})
	}
	return x
}

func told(t *testing.T, what string, err, want api.Errno) {
	t.Helper()
	if err != want {
		t.Errorf("%s: %d, not %d", what, err, want)
	}
}

func applied(t *testing.T, l ...post.Posting) *Books {
	t.Helper()
	b := New()
	for _, x := range l {
		told(t, "Apply", b.Apply(x), api.OK)
	}
	return b
}

func is(t *testing.T, b *Books, want ...Entry) {
	t.Helper()
	if !slices.Equal(b.List(), want) {
		t.Errorf("%v, not %v", b.List(), want)
	}
	for _, e := range want {
		if b.Balance(e.Account) != e.Amount {
			t.Errorf("Balance(%d) = %d", e.Account, b.Balance(e.Account))
		}
	}
}

// TestApply holds P23.1.
func TestApply(t *testing.T) {
	b := applied(t, p(1, 5, 2, -5), nil, p(65535, 7, 0, -7), p(1, 3, 1, 4, 2, -7))
	is(t, b, Entry{0, -7}, Entry{1, 12}, Entry{2, -12}, Entry{65535, 7})
	told(t, "Apply", b.Apply(p(0, 7, 65535, -7, 1, -12)), api.OK)
	is(t, b, Entry{2, -12})
	for _, account := range []int{0, 1, 3, -1, 65536, math.MinInt, math.MaxInt} {
		if b.Balance(account) != 0 {
			t.Errorf("Balance(%d)", account)
		}
	}
	l := b.List()
	l[0].Amount = 1
	is(t, b, Entry{2, -12})
}

// TestApplyWrong holds P23.1: errors, by which nothing is changed.
func TestApplyWrong(t *testing.T) {
	b := applied(t, p(1, most, 2, least, 3, 1))
	for i, x := range []struct {
		p    post.Posting
		want api.Errno
	}{
		{p(3, 1, 1, 1), api.ErrOver}, {p(3, 1, 2, -1), api.ErrOver}, {p(1, 1, -1, 1), api.ErrRange}, {p(3, 1, 65536, 1), api.ErrRange}, {p(math.MinInt, 1), api.ErrRange},
		{p(3, most), api.ErrOver}, {p(4, most, 4, 1), api.ErrOver},
	} {
		if err := b.Apply(x.p); err != x.want {
			t.Errorf("%d: %d, not %d", i, err, x.want)
		}
		is(t, b, Entry{1, most}, Entry{2, least}, Entry{3, 1})
	}
	told(t, "all together", b.Apply(p(1, 1, 1, -1, 2, -1, 2, 2, 4, most, 4, most, 4, least)), api.OK)
	is(t, b, Entry{1, most}, Entry{2, least + 1}, Entry{3, 1}, Entry{4, most - 1})
	var none *Books
	told(t, "nil", none.Apply(p(-1, 1)), api.ErrNil)
	if none.Balance(1) != 0 || len(none.List()) != 0 || none.Copy() != nil {
		t.Error("nil books")
	}
}

// TestTrial holds P23.2 and P23.4.
func TestTrial(t *testing.T) {
	for i, x := range []struct {
		b               *Books
		debits, credits cents.Cents
		err             api.Errno
	}{
		{nil, 0, 0, api.OK}, {New(), 0, 0, api.OK}, {applied(t, p(1, 5, 2, -5)), 5, 5, api.OK}, {applied(t, p(1, 5, 2, -3, 3, -2, 4, 9, 5, -9)), 14, 14, api.OK},
		{applied(t, p(1, most, 2, -most)), most, most, api.OK}, {applied(t, p(1, most, 2, 1)), 0, 0, api.ErrOver}, {applied(t, p(1, 4, 2, least)), 0, 0, api.ErrOver},
		{applied(t, p(1, 4, 2, -most, 3, -2)), 0, 0, api.ErrOver}, {applied(t, p(1, 4)), 4, 0, api.OK},
	} {
		if d, c, err := x.b.Trial(); d != x.debits || c != x.credits || err != x.err {
			t.Errorf("%d: %d, %d, %d", i, d, c, err)
		}
	}
}

// TestCopy holds P23.2.
func TestCopy(t *testing.T) {
	a := applied(t, p(1, 5, 2, -5))
	b := a.Copy()
	told(t, "Apply", a.Apply(p(1, 1)), api.OK)
	told(t, "Apply", b.Apply(p(2, 1)), api.OK)
	is(t, a, Entry{1, 6}, Entry{2, -5})
	is(t, b, Entry{1, 5}, Entry{2, -4})
}

// TestFields holds P23.3: the fields, what comes back of them, and what are none.
func TestFields(t *testing.T) {
	b := applied(t, p(258, 5, 0, -1))
	var w cur.Writer
	b.Write(&w)
	(*Books)(nil).Write(&w)
	b.Write(nil)
	s, err := w.Bytes()
	if s != "\x00\x02\x00\x00\xff\xff\xff\xff\xff\xff\xff\xff\x01\x02\x00\x00\x00\x00\x00\x00\x00\x05" || err != api.OK {
		t.Errorf("%x, %d", s, err)
	}
	r := cur.Read(s + "xyz")
	c, err := Read(r)
	told(t, "Read", err, api.OK)
	is(t, c, Entry{0, -1}, Entry{258, 5})
	if r.Left() != 3 {
		t.Errorf("%d left", r.Left())
	}
	for end := range len(s) {
		if c, err := Read(cur.Read(s[:end])); c != nil || err != api.ErrForm {
			t.Errorf("the first %d bytes: %d", end, err)
		}
	}
	amount := "\x00\x00\x00\x00\x00\x00\x00\x05"
	for i, s := range []string{"\x00\x01\x00\x01\x00\x00\x00\x00\x00\x00\x00\x00", "\x00\x02\x00\x01" + amount + "\x00\x01" + amount, "\x00\x02\x00\x02" + amount + "\x00\x01" + amount, "\xff\xff\x00\x01" + amount} {
		r := cur.Read(s)
		if c, err := Read(r); c != nil || err != api.ErrForm || r.Left() != len(s) {
			t.Errorf("%d: %d, %d left", i, err, r.Left())
		}
	}
	wrong := cur.Read("\x00\x00")
	wrong.Number(9)
	for _, r := range []*cur.Reader{nil, wrong} {
		if c, err := Read(r); c != nil || err != api.ErrForm {
			t.Errorf("no reader: %d", err)
		}
	}
	if c, err := Read(cur.Read("\x00\x00")); len(c.List()) != 0 || err != api.OK {
		t.Errorf("empty ones: %d", err)
	}
}

func newChart(l ...chart.Account) *chart.Chart {
	c := chart.New()
	for _, a := range l {
		c.Add(a)
	}
	return c
}

// TestSheet holds P23.5.
func TestSheet(t *testing.T) {
	c := newChart(chart.Account{Code: 1, Kind: chart.Asset, Name: "Cash"}, chart.Account{Code: 2, Kind: chart.Income, Name: "Sales"}, chart.Account{Code: 3, Kind: chart.Expense, Name: "Rent"},
		chart.Account{Code: 4, Kind: chart.Asset, Name: "Bank"}, chart.Account{Code: 5, Kind: chart.Equity, Name: "Own"}, chart.Account{Code: 6, Kind: chart.Liability, Name: "Debt"}, chart.Account{Code: 7, Kind: chart.Income, Name: "More"})
	for i, x := range []struct {
		p    post.Posting
		want Sheet
		err  api.Errno
	}{
		{nil, Sheet{}, api.OK},
		{p(1, 700, 2, -900, 3, 200, 4, 50, 5, -30, 6, -20, 7, -1), Sheet{[6]cents.Cents{0, 750, -20, -30, -901, 200}, 701}, api.OK},
		{p(1, 1, 9, -1), Sheet{}, api.ErrAccount}, {p(1, most, 4, 1), Sheet{}, api.ErrOver}, {p(1, most, 4, 1, 9, 1), Sheet{}, api.ErrAccount},
		{p(2, least), Sheet{}, api.ErrOver}, {p(2, least, 3, 1), Sheet{[6]cents.Cents{0, 0, 0, 0, least, 1}, most}, api.OK}, {p(2, most, 3, 1), Sheet{}, api.ErrOver}, {p(2, 5, 7, most, 3, least), Sheet{}, api.ErrOver},
	} {
		if s, err := applied(t, x.p).Sheet(c); s != x.want || err != x.err {
			t.Errorf("%d: %v, %d", i, s, err)
		}
	}
	for _, x := range []struct {
		b *Books
		c *chart.Chart
	}{{nil, c}, {New(), nil}, {nil, nil}} {
		if s, err := x.b.Sheet(x.c); s != (Sheet{}) || err != api.ErrNil {
			t.Errorf("nil: %v, %d", s, err)
		}
		if len(x.b.Lines(x.c)) != 0 {
			t.Error("Lines of nil")
		}
	}
}

// TestLines holds P23.5.
func TestLines(t *testing.T) {
	c := newChart(chart.Account{Code: 4000, Kind: chart.Income, Name: "Sales, all"}, chart.Account{Code: 7, Kind: chart.Asset, Name: "Cash"}, chart.Account{Code: 9, Kind: chart.Asset, Name: "Bank"})
	b := applied(t, p(7, 12345, 4000, -5, 8, 1))
	if l := b.Lines(c); !slices.Equal(l, []string{"7 Cash 123.45", "9 Bank 0.00", "4000 Sales, all -0.05"}) {
		t.Errorf("%q", l)
	}
	if l := b.Lines(chart.New()); len(l) != 0 {
		t.Errorf("%q", l)
	}
}
