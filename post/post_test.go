package post

import (
	"math"
	"slices"
	"strings"
	"testing"

	"tillroll/api"
	"tillroll/cents"
	"tillroll/chart"
	"tillroll/cur"
)

const least, most = cents.Cents(math.MinInt64), cents.Cents(math.MaxInt64)

func accounts(codes ...int) *chart.Chart {
	c := chart.New()
	for _, code := range codes {
		c.Add(chart.Account{Code: code, Kind: chart.Asset, Name: "a"})
	}
	return c
}

func bytes(p Posting) (string, api.Errno) {
	var w cur.Writer
	p.Write(&w)
	return w.Bytes()
}

// TestCheck holds P22.1: the order of errors, and each edge.
func TestCheck(t *testing.T) {
	c := accounts(1, 2, 3)
	eight := Posting{{1, 1}, {1, 1}, {1, 1}, {1, 1}, {1, 1}, {1, 1}, {1, 1}, {2, -7}}
	for i, x := range []struct {
		p    Posting
		want api.Errno
	}{
		{Posting{{1, 500}, {2, -500}}, api.OK}, {eight, api.OK}, {append(slices.Clone(eight), Line{3, 1}), api.ErrArg}, {nil, api.ErrArg}, {Posting{{1, 1}}, api.ErrArg},
		{Posting{{1, 1}, {1, -1}}, api.OK}, {Posting{{1, 1}, {2, -1}, {3, 0}}, api.ErrArg}, {Posting{{9, 0}, {2, -1}}, api.ErrArg}, {Posting{{1, 1}, {9, -1}}, api.ErrAccount}, {Posting{{9, 1}, {9, 1}}, api.ErrAccount},
		{Posting{{0, 1}, {-1, -1}}, api.ErrAccount}, {Posting{{math.MinInt, 1}, {math.MaxInt, -1}}, api.ErrAccount}, {Posting{{1, 1}, {2, 1}}, api.ErrUneven}, {Posting{{1, most}, {2, most}, {3, 2}}, api.ErrUneven},
		{Posting{{1, most}, {2, most}, {3, least}, {3, least}, {1, 2}}, api.OK}, {Posting{{1, most}, {2, least}, {3, 1}}, api.OK}, {Posting{{1, most}, {2, least}}, api.ErrUneven}, {Posting{{1, least}, {2, least}}, api.ErrUneven},
	} {
		if err := x.p.Check(c); err != x.want {
			t.Errorf("%d: %d, not %d", i, err, x.want)
		}
	}
	if err := (Posting{}).Check(nil); err != api.ErrNil {
		t.Errorf("no chart: %d", err)
	}
}

// TestContra holds P22.2 and P22.4.
func TestContra(t *testing.T) {
	p := Posting{{1, 500}, {2, -300}, {1, -200}}
	q, err := p.Contra()
	if err != api.OK || !slices.Equal(q, Posting{{1, -500}, {2, 300}, {1, 200}}) || p[0].Amount != 500 {
		t.Errorf("%v, %d", q, err)
	}
	if err := q.Check(accounts(1, 2)); err != api.OK {
		t.Errorf("the contra one: %d", err)
	}
	for _, account := range []int{1, 2, 3} {
		a, _ := p.On(account)
		b, _ := q.On(account)
		if a != -b {
			t.Errorf("%d on %d, and %d", a, account, b)
		}
	}
	if q, err := (Posting{{1, most}, {2, -most}}).Contra(); err != api.OK || !slices.Equal(q, Posting{{1, -most}, {2, most}}) {
		t.Errorf("%v, %d", q, err)
	}
	if q, err := (Posting{{1, 1}, {2, least}}).Contra(); len(q) != 0 || err != api.ErrOver {
		t.Errorf("%v, %d", q, err)
	}
	if q, err := (Posting)(nil).Contra(); len(q) != 0 || err != api.OK {
		t.Errorf("%v, %d", q, err)
	}
}

// TestOn holds P22.2.
func TestOn(t *testing.T) {
	p := Posting{{1, 5}, {2, most}, {1, -7}, {2, 1}, {2, -1}, {math.MinInt, 3}, {4, most}, {4, 1}, {5, least}, {5, -1}}
	for account, want := range map[int]cents.Cents{1: -2, 2: most, 3: 0, math.MinInt: 3, math.MaxInt: 0} {
		if n, err := p.On(account); n != want || err != api.OK {
			t.Errorf("On(%d): %d, %d", account, n, err)
		}
	}
	for _, account := range []int{4, 5} {
		if n, err := p.On(account); n != 0 || err != api.ErrOver {
			t.Errorf("On(%d): %d, %d", account, n, err)
		}
	}
}

// TestWrite holds P22.3: the fields, and what has none.
func TestWrite(t *testing.T) {
	if s, err := bytes(Posting{{258, 5}, {65535, -1}}); s != "\x02\x01\x02\x00\x00\x00\x00\x00\x00\x00\x05\xff\xff\xff\xff\xff\xff\xff\xff\xff\xff" || err != api.OK {
		t.Errorf("%x, %d", s, err)
	}
	if s, err := bytes(nil); s != "\x00" || err != api.OK {
		t.Errorf("%x, %d", s, err)
	}
	for i, p := range []Posting{make(Posting, 9), make(Posting, 256), {{-1, 1}}, {{65536, 1}}, {{1, 1}, {math.MinInt, 1}}, {{math.MaxInt, 1}}} {
		if s, err := bytes(p); s != "" || err != api.ErrArg {
			t.Errorf("%d: %x, %d", i, s, err)
		}
	}
	Posting{{1, 1}}.Write(nil)
	make(Posting, 9).Write(nil)
}

// TestRead holds P22.3: a posting comes back, and what is none's is told.
func TestRead(t *testing.T) {
	for _, p := range []Posting{nil, {{0, 0}}, {{1, 500}, {2, -500}}, {{65535, least}, {0, most}, {3, 4}, {3, 4}, {5, 6}, {7, 8}, {9, 10}, {11, 12}}} {
		s, _ := bytes(p)
		r := cur.Read(s + "x")
		if q, err := Read(r); err != api.OK || !slices.Equal(q, p) || r.Left() != 1 {
			t.Errorf("%v, %d", q, err)
		}
		for end := range len(s) {
			r := cur.Read(s[:end])
			if q, err := Read(r); q != nil || err != api.ErrForm || r.Left() != end {
				t.Errorf("the first %d bytes: %v, %d", end, q, err)
			}
		}
	}
	if q, err := Read(cur.Read("\x09" + strings.Repeat("\x00", 90))); q != nil || err != api.ErrForm {
		t.Errorf("nine lines: %v, %d", q, err)
	}
	if q, err := Read(nil); q != nil || err != api.ErrForm {
		t.Errorf("no reader: %v, %d", q, err)
	}
	wrong := cur.Read("\x00")
	wrong.Number(9)
	if q, err := Read(wrong); q != nil || err != api.ErrForm {
		t.Errorf("a wrong reader: %v, %d", q, err)
	}
}
