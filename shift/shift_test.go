package shift

import (
	"math"
	"slices"
	"strings"
	"testing"

	"tillroll/api"
	"tillroll/cents"
	"tillroll/cur"
	"tillroll/sale"
)

const least, most = cents.Cents(math.MinInt64), cents.Cents(math.MaxInt64)

func told(t *testing.T, what string, err, want api.Errno) {
	t.Helper()
	if err != want {
		t.Errorf("%s: %d, not %d", what, err, want)
	}
}

func newShifts(t *testing.T, keep int) *Shifts {
	t.Helper()
	s, err := New(keep)
	told(t, "New", err, api.OK)
	return s
}

func start(t *testing.T, s *Shifts, want int) {
	t.Helper()
	if n, err := s.Start(); n != want || err != api.OK || s.Open() != want {
		t.Errorf("Start: %d, %d", n, err)
	}
}

func end(t *testing.T, s *Shifts, want int, totals Totals) {
	t.Helper()
	if n, x, err := s.End(); n != want || x != totals || err != api.OK || s.Open() != 0 {
		t.Errorf("End: %d, %v, %d", n, x, err)
	}
}

func totals(t *testing.T, s *Shifts, number int, want Totals, there bool) {
	t.Helper()
	if x, ok := s.Totals(number); x != want || ok != there {
		t.Errorf("Totals(%d): %v, %v", number, x, ok)
	}
}

// TestTill holds P26.1.
func TestTill(t *testing.T) {
	for i, x := range []struct {
		t    Totals
		want cents.Cents
		err  api.Errno
	}{
		{Totals{}, 0, api.OK}, {Totals{9, 1000, 200, 30, 4, 5}, 769, api.OK}, {Totals{0, most, 0, 0, most, most}, most, api.OK}, {Totals{0, most, 0, 0, 1, 0}, 0, api.ErrOver}, {Totals{0, 0, most, 1, 0, 0}, least, api.OK},
		{Totals{0, 0, most, 2, 0, 0}, 0, api.ErrOver}, {Totals{0, -1, least, 0, 0, 0}, most, api.OK}, {Totals{0, 0, least, 0, 0, 0}, 0, api.ErrOver}, {Totals{0, least, least, least, least, 0}, 0, api.OK},
	} {
		if n, err := x.t.Till(); n != x.want || err != x.err {
			t.Errorf("%d: %d, %d", i, n, err)
		}
	}
}

// TestStart holds P26.1: shifts, one behind the other, of which the last ones are kept.
func TestStart(t *testing.T) {
	for _, n := range []int{0, -1, 65, math.MinInt, math.MaxInt} {
		if s, err := New(n); s != nil || err != api.ErrArg {
			t.Errorf("New(%d): %d", n, err)
		}
		if s, err := Read(nil, n); s != nil || err != api.ErrArg {
			t.Errorf("Read of %d: %d", n, err)
		}
	}
	newShifts(t, 64)
	s := newShifts(t, 2)
	if n, x, err := s.End(); n != 0 || x != (Totals{}) || err != api.ErrShift || s.Open() != 0 {
		t.Errorf("End: %d, %v, %d", n, x, err)
	}
	for number := 1; number < 5; number++ {
		start(t, s, number)
		if n, err := s.Start(); n != 0 || err != api.ErrShift {
			t.Errorf("Start: %d, %d", n, err)
		}
		totals(t, s, number, Totals{}, true)
		told(t, "Add", s.Add(sale.Sale, cents.Cents(number)), api.OK)
		for n := range 6 {
			there := n == number || n < number && n >= max(1, number-2)
			want := Totals{}
			if there {
				want = Totals{Count: 1, Sales: cents.Cents(n)}
			}
			totals(t, s, n, want, there)
		}
		end(t, s, number, Totals{Count: 1, Sales: cents.Cents(number)})
	}
	totals(t, s, 3, Totals{Count: 1, Sales: 3}, true)
	for _, n := range []int{0, 1, 2, 5, -1, math.MinInt, math.MaxInt} {
		totals(t, s, n, Totals{}, false)
	}
}

// TestFull holds P26.1: numbers end.
func TestFull(t *testing.T) {
	s, err := Read(cur.Read("\x00\xff\xff\xff\xff\x00\x00"), 2)
	told(t, "Read", err, api.OK)
	start(t, s, math.MaxUint32)
	end(t, s, math.MaxUint32, Totals{})
	if n, err := s.Start(); n != 0 || err != api.ErrFull {
		t.Errorf("Start: %d, %d", n, err)
	}
}

// TestAdd holds P26.2.
func TestAdd(t *testing.T) {
	s := newShifts(t, 2)
	told(t, "none open", s.Add(sale.Sale, 1), api.ErrShift)
	told(t, "kind ahead", s.Add(0, 1), api.ErrArg)
	start(t, s, 1)
	for i, k := range []sale.Kind{sale.Sale, sale.Void, sale.Refund, sale.In, sale.Out, sale.Post, sale.Sale, sale.Post} {
		told(t, "Add", s.Add(k, cents.Cents(i+1)), api.OK)
	}
	want := Totals{8, 8, 2, 3, 4, 5}
	totals(t, s, 1, want, true)
	told(t, "kind", s.Add(7, 1), api.ErrArg)
	told(t, "kind", s.Add(255, 1), api.ErrArg)
	told(t, "below", s.Add(sale.Post, -1), api.ErrArg)
	told(t, "below", s.Add(sale.In, least), api.ErrArg)
	told(t, "over", s.Add(sale.Out, most-4), api.ErrOver)
	totals(t, s, 1, want, true)
	told(t, "Add", s.Add(sale.Out, most-5), api.OK)
	told(t, "Add", s.Add(sale.Out, 0), api.OK)
	told(t, "Add", s.Add(sale.Post, most), api.OK)
	totals(t, s, 1, Totals{11, 8, 2, 3, 4, most}, true)
	// The greatest Count.
	s, err := Read(cur.Read("\x00\x00\x00\x00\x02\x01\x00\xff\xff\xff\xff"+strings.Repeat("\x00", 40)), 2)
	told(t, "Read", err, api.OK)
	told(t, "over", s.Add(sale.Post, 0), api.ErrOver)
	totals(t, s, 1, Totals{Count: math.MaxUint32}, true)
}

// TestNone holds the words on nil shifts.
func TestNone(t *testing.T) {
	var s *Shifts
	n, err := s.Start()
	told(t, "Start", err, api.ErrNil)
	m, x, err := s.End()
	told(t, "End", err, api.ErrNil)
	told(t, "Add", s.Add(0, -1), api.ErrNil)
	totals(t, s, 0, Totals{}, false)
	if n != 0 || m != 0 || x != (Totals{}) || s.Open() != 0 || s.Copy() != nil || len(s.Lines(0)) != 0 {
		t.Error("nil shifts")
	}
}

// TestCopy holds P26.2 and P26.4.
func TestCopy(t *testing.T) {
	a := newShifts(t, 1)
	start(t, a, 1)
	told(t, "Add", a.Add(sale.In, 5), api.OK)
	b := a.Copy()
	told(t, "Add", a.Add(sale.In, 1), api.OK)
	end(t, b, 1, Totals{Count: 1, Ins: 5})
	totals(t, a, 1, Totals{Count: 2, Ins: 6}, true)
	c := b.Copy()
	start(t, b, 2)
	end(t, b, 2, Totals{})
	totals(t, b, 1, Totals{}, false)
	totals(t, c, 1, Totals{Count: 1, Ins: 5}, true)
}

// TestLines holds P26.5.
func TestLines(t *testing.T) {
	s := newShifts(t, 1)
	start(t, s, 1)
	told(t, "Add", s.Add(sale.Sale, 500), api.OK)
	told(t, "Add", s.Add(sale.Refund, 205), api.OK)
	want := []string{"shift 1 open", "count 2", "sales 5.00", "voids 0.00", "refunds 2.05", "ins 0.00", "out 0.00", "till 2.95"}
	if l := s.Lines(1); !slices.Equal(l, want) {
		t.Errorf("%q", l)
	}
	s.End()
	start(t, s, 2)
	want[0] = "shift 1 closed"
	if l := s.Lines(1); !slices.Equal(l, want) {
		t.Errorf("%q", l)
	}
	told(t, "Add", s.Add(sale.Sale, most), api.OK)
	told(t, "Add", s.Add(sale.In, 1), api.OK)
	told(t, "Add", s.Add(sale.Out, 0), api.OK)
	want = []string{"shift 2 open", "count 3", "sales 92233720368547758.07", "voids 0.00", "refunds 0.00", "ins 0.01", "out 0.00", "till over"}
	if l := s.Lines(2); !slices.Equal(l, want) {
		t.Errorf("%q", l)
	}
	for _, n := range []int{0, 3, -1, math.MinInt, math.MaxInt} {
		if l := s.Lines(n); len(l) != 0 {
			t.Errorf("Lines(%d): %q", n, l)
		}
	}
}

// TestFields holds P26.3: the fields, and what comes back of them.
func TestFields(t *testing.T) {
	s := newShifts(t, 2)
	for i := range 4 {
		start(t, s, i+1)
		for k := sale.Sale; k <= sale.Post; k++ {
			told(t, "Add", s.Add(k, cents.Cents(10*i)+cents.Cents(k)), api.OK)
		}
		if i < 3 {
			s.End()
		}
	}
	var w cur.Writer
	s.Write(&w)
	(*Shifts)(nil).Write(&w)
	s.Write(nil)
	text, err := w.Bytes()
	sums := func(n int64) string {
		s, _ := new(cur.Writer).Number(6, 4).Signed(n + 1).Signed(n + 2).Signed(n + 3).Signed(n + 4).Signed(n + 5).Bytes()
		return s
	}
	if text != "\x00\x00\x00\x00\x05\x01\x02"+sums(10)+sums(20)+sums(30) || err != api.OK {
		t.Errorf("%x, %d", text, err)
	}
	r := cur.Read(text + "x")
	q, err := Read(r, 3)
	told(t, "Read", err, api.OK)
	if q.Open() != 4 || r.Left() != 1 {
		t.Errorf("open %d, %d left", q.Open(), r.Left())
	}
	for n := range 6 {
		want, there := s.Totals(n)
		totals(t, q, n, want, there)
	}
	for end := range len(text) {
		if q, err := Read(cur.Read(text[:end]), 3); q != nil || err != api.ErrForm {
			t.Errorf("the first %d bytes: %d", end, err)
		}
	}
}

// TestRead holds P26.3: what are no shifts'.
func TestRead(t *testing.T) {
	zero := strings.Repeat("\x00", 44)
	below := strings.Repeat("\x00", 36) + strings.Repeat("\xff", 8)
	head := func(next, open, closed uint64) string {
		s, _ := new(cur.Writer).Number(next, 5).Number(open, 1).Number(closed, 1).Bytes()
		return s
	}
	for i, x := range []struct {
		s    string
		want api.Errno
	}{
		{head(1, 0, 0), api.OK}, {head(0, 0, 0), api.ErrForm}, {head(1<<32, 0, 0), api.OK}, {head(1<<32+1, 0, 0), api.ErrForm}, {head(1<<32, 1, 0) + zero, api.OK}, {head(1, 1, 0) + zero, api.ErrForm}, {head(2, 1, 0) + zero, api.OK}, {head(2, 2, 0) + zero, api.ErrForm},
		{head(2, 1, 1) + zero + zero, api.ErrForm}, {head(3, 1, 1) + zero + zero, api.OK}, {head(1, 0, 1) + zero, api.ErrForm}, {head(2, 0, 1) + zero, api.OK}, {head(3, 0, 2) + zero + zero, api.OK}, {head(9, 0, 3) + zero + zero + zero, api.ErrForm},
		{head(9, 0, 2) + zero + below, api.ErrForm}, {head(9, 1, 0) + below, api.ErrForm}, {head(9, 1, 1) + below + zero, api.ErrForm}, {head(9, 1, 1) + zero, api.ErrForm},
	} {
		r := cur.Read(x.s)
		q, err := Read(r, 2)
		if err != x.want || (err != api.OK) != (q == nil) || err != api.OK && r.Left() != len(x.s) {
			t.Errorf("%d: %d, not %d", i, err, x.want)
		}
	}
	wrong := cur.Read(head(1, 0, 0))
	wrong.Number(9)
	for _, r := range []*cur.Reader{nil, wrong} {
		if q, err := Read(r, 1); q != nil || err != api.ErrForm {
			t.Errorf("no reader: %d", err)
		}
	}
}
