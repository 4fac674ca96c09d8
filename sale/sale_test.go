package sale

import (
	"math"
	"reflect"
	"slices"
	"strings"
	"testing"

	"tillroll/api"
	"tillroll/cents"
	"tillroll/cur"
	"tillroll/post"
)

func told(t *testing.T, what string, err, want api.Errno) {
	t.Helper()
	if err != want {
		t.Errorf("%s: %d, not %d", what, err, want)
	}
}

func lines(l ...int) post.Posting {
	var p post.Posting
	for i := 0; i < len(l); i += 2 {
		p = append(p, post.Line{Account: l[i], Amount: cents.Cents(l[i+1])})
	}
	return p
}

func newRegister(t *testing.T, keep int, l ...Tx) *Register {
	t.Helper()
	r, err := New(keep)
	told(t, "New", err, api.OK)
	for _, x := range l {
		_, err := r.Add(x)
		told(t, "Add", err, api.OK)
	}
	return r
}

func sold(n cents.Cents) Tx              { return Tx{Kind: Sale, Shift: 1, Amount: n} }
func voided(ref int, n cents.Cents) Tx   { return Tx{Kind: Void, Shift: 1, Ref: ref, Amount: n} }
func refunded(ref int, n cents.Cents) Tx { return Tx{Kind: Refund, Shift: 1, Ref: ref, Amount: n} }

func add(t *testing.T, r *Register, x Tx, want int, wanted api.Errno) {
	t.Helper()
	before := r.List()
	n, err := r.Add(x)
	if n != want || err != wanted {
		t.Errorf("Add(%v): %d, %d, not %d, %d", x, n, err, want, wanted)
	}
	if err != api.OK && !reflect.DeepEqual(r.List(), before) {
		t.Error("a refused call changed something")
	}
}

func left(t *testing.T, r *Register, number int, want cents.Cents, void bool) {
	t.Helper()
	if x, ok := r.Get(number); !ok || x.Left != want || x.Void != void || x.Number != number {
		t.Errorf("Get(%d): %v, %v", number, x, ok)
	}
}

// TestNew holds P25.1.
func TestNew(t *testing.T) {
	for _, n := range []int{1, api.MaxSales} {
		if r := newRegister(t, n); r.Next() != 1 || len(r.List()) != 0 {
			t.Errorf("a register of %d", n)
		}
	}
	for _, n := range []int{0, -1, api.MaxSales + 1, math.MinInt, math.MaxInt} {
		if r, err := New(n); r != nil || err != api.ErrArg {
			t.Errorf("New(%d): %d", n, err)
		}
		if r, err := Read(nil, n); r != nil || err != api.ErrArg {
			t.Errorf("Read of %d: %d", n, err)
		}
	}
	var none *Register
	x, ok := none.Get(1)
	if none.Next() != 0 || !reflect.DeepEqual(x, Tx{}) || ok || len(none.List()) != 0 || none.Copy() != nil || len(none.Find(Ask{})) != 0 || len(none.Back(1)) != 0 {
		t.Error("a nil register")
	}
	if n, err := none.Add(Tx{}); n != 0 || err != api.ErrNil {
		t.Errorf("Add: %d, %d", n, err)
	}
	if Sale != 1 || Post != 6 {
		t.Error("the kinds")
	}
}

// TestGet holds P25.1: the last ones are kept, and what is told is new memory.
func TestGet(t *testing.T) {
	r := newRegister(t, 2)
	p := lines(1, 5, 2, -5)
	for i := range 4 {
		add(t, r, Tx{Number: 99, Kind: Sale, Shift: 7, Amount: 5, Left: 77, Void: true, Lines: p}, i+1, api.OK)
	}
	p[0].Account = 9
	want := Tx{Number: 3, Kind: Sale, Shift: 7, Amount: 5, Left: 5, Lines: lines(1, 5, 2, -5)}
	x, ok := r.Get(3)
	if !ok || !reflect.DeepEqual(x, want) || r.Next() != 5 {
		t.Errorf("%v", x)
	}
	x.Lines[0].Account = 9
	r.List()[0].Lines[0].Account = 9
	if x, _ := r.Get(3); !reflect.DeepEqual(x, want) {
		t.Errorf("%v", x)
	}
	for _, n := range []int{0, 1, 2, 5, -1, math.MinInt, math.MaxInt} {
		if x, ok := r.Get(n); ok || !reflect.DeepEqual(x, Tx{}) {
			t.Errorf("Get(%d): %v", n, x)
		}
	}
	l := r.List()
	if len(l) != 2 || l[0].Number != 3 || l[1].Number != 4 {
		t.Errorf("%v", l)
	}
}

// TestArg holds P25.2: what may not be added.
func TestArg(t *testing.T) {
	r := newRegister(t, 9, sold(500))
	nine := lines(1, 1, 1, 1, 1, 1, 1, 1, 1, 1, 1, 1, 1, 1, 1, 1, 1, 1)
	for _, x := range []Tx{
		{}, {Kind: 7, Shift: 1, Amount: 1}, {Kind: 255, Shift: 1, Amount: 1}, {Kind: Sale, Amount: 1}, {Kind: Sale, Shift: -1, Amount: 1}, {Kind: Sale, Shift: math.MaxUint32 + 1, Amount: 1}, {Kind: Sale, Shift: math.MaxInt, Amount: 1},
		{Kind: Sale, Shift: 1}, {Kind: Sale, Shift: 1, Amount: -1}, {Kind: Sale, Shift: 1, Amount: api.MaxCents + 1}, {Kind: Sale, Shift: 1, Amount: math.MinInt64}, {Kind: Sale, Shift: 1, Ref: 1, Amount: 1}, {Kind: Post, Shift: 1, Amount: 1}, {Kind: Post, Shift: 1, Ref: 1},
		{Kind: In, Shift: 1, Ref: -1, Amount: 1}, {Kind: Out, Shift: 1}, {Kind: Void, Shift: 1, Amount: 500}, {Kind: Void, Shift: 1, Ref: -1, Amount: 500}, {Kind: Refund, Shift: 1, Ref: math.MaxUint32 + 1, Amount: 1}, {Kind: Refund, Shift: 1, Ref: 1}, {Kind: Void, Shift: 1, Ref: 1},
		{Kind: Sale, Shift: 1, Amount: 1, Lines: nine}, {Kind: Sale, Shift: 1, Amount: 1, Lines: lines(-1, 1)}, {Kind: Post, Shift: 1, Lines: lines(1, 1, 65536, 1)}, {Kind: Post, Shift: 1, Lines: lines(math.MinInt, 1)},
	} {
		add(t, r, x, 0, api.ErrArg)
	}
	for i, x := range []Tx{
		{Kind: Sale, Shift: math.MaxUint32, Amount: api.MaxCents, Lines: nine[:8]}, {Kind: In, Shift: 1, Amount: 1}, {Kind: Out, Shift: 1, Amount: 1, Lines: lines(0, 0, 65535, math.MinInt)}, {Kind: Post, Shift: 1}, {Kind: Post, Shift: 1, Lines: lines(1, 1)},
	} {
		add(t, r, x, i+2, api.OK)
	}
}

// TestBack holds P25.2 and P25.4: voids and refunds, and what is left.
func TestBack(t *testing.T) {
	r := newRegister(t, 20, sold(500), sold(700), Tx{Kind: In, Shift: 1, Amount: 500})
	for _, ref := range []int{3, 4, math.MaxUint32} {
		add(t, r, voided(ref, 500), 0, api.ErrNone)
		add(t, r, refunded(ref, 1), 0, api.ErrNone)
	}
	add(t, r, refunded(1, 501), 0, api.ErrLeft)
	add(t, r, voided(1, 499), 0, api.ErrArg)
	add(t, r, refunded(1, 200), 4, api.OK)
	left(t, r, 1, 300, false)
	left(t, r, 4, 0, false)
	add(t, r, voided(1, 500), 0, api.ErrLeft)
	add(t, r, voided(1, 300), 0, api.ErrLeft)
	add(t, r, refunded(1, 301), 0, api.ErrLeft)
	add(t, r, refunded(1, 300), 5, api.OK)
	left(t, r, 1, 0, false)
	add(t, r, refunded(1, 1), 0, api.ErrLeft)
	add(t, r, voided(1, 500), 0, api.ErrLeft)
	add(t, r, voided(2, 700), 6, api.OK)
	left(t, r, 2, 0, true)
	add(t, r, voided(2, 700), 0, api.ErrVoid)
	add(t, r, voided(2, 1), 0, api.ErrVoid)
	add(t, r, refunded(2, 1), 0, api.ErrVoid)
	add(t, r, voided(4, 200), 0, api.ErrNone)
	add(t, r, voided(6, 700), 0, api.ErrNone)
	if !slices.Equal(r.Back(1), []int{4, 5}) || !slices.Equal(r.Back(2), []int{6}) || len(r.Back(3)) != 0 || len(r.Back(0)) != 0 || len(r.Back(math.MinInt)) != 0 {
		t.Errorf("Back: %v, %v", r.Back(1), r.Back(2))
	}
	// The Sale goes by the Void of it.
	one := newRegister(t, 1, sold(5))
	add(t, one, voided(1, 5), 2, api.OK)
	add(t, one, voided(1, 5), 0, api.ErrNone)
}

// TestFull holds P25.2: numbers end.
func TestFull(t *testing.T) {
	r, err := Read(cur.Read("\x00\xff\xff\xff\xff\x00\x00"), 3)
	told(t, "Read", err, api.OK)
	add(t, r, sold(5), math.MaxUint32, api.OK)
	add(t, r, sold(5), 0, api.ErrFull)
	add(t, r, voided(math.MaxUint32, 4), 0, api.ErrArg)
	add(t, r, voided(math.MaxUint32, 5), 0, api.ErrFull)
	left(t, r, math.MaxUint32, 5, false)
	if r.Next() != math.MaxUint32+1 {
		t.Errorf("Next %d", r.Next())
	}
}

// TestCopy holds P25.1.
func TestCopy(t *testing.T) {
	a := newRegister(t, 3, sold(500))
	b := a.Copy()
	add(t, a, refunded(1, 100), 2, api.OK)
	add(t, b, voided(1, 500), 2, api.OK)
	left(t, a, 1, 400, false)
	left(t, b, 1, 0, true)
	add(t, a, sold(1), 3, api.OK)
	add(t, a, sold(1), 4, api.OK)
	if len(a.List()) != 3 || len(b.List()) != 2 || b.Next() != 3 {
		t.Errorf("%v, %v", a.List(), b.List())
	}
}

// TestFind holds P25.5.
func TestFind(t *testing.T) {
	r := newRegister(t, 20,
		Tx{Kind: Sale, Shift: 1, Amount: 500, Lines: lines(1, 500, 2, -500)}, Tx{Kind: Sale, Shift: 2, Amount: 300, Lines: lines(1, 300, 3, -300)}, Tx{Kind: Post, Shift: 2, Lines: lines(4, 1, 5, -1)},
		Tx{Kind: In, Shift: 2, Amount: 300}, voided(1, 500), Tx{Kind: Sale, Shift: 3, Amount: 100, Lines: lines(0, 100)}, refunded(6, 100), Tx{Kind: Refund, Shift: 1, Ref: 2, Amount: 1})
	const most = cents.Cents(math.MaxInt64)
	for i, x := range []struct {
		a    Ask
		want []int
	}{
		{Ask{}, []int{3}}, {Ask{Most: most}, []int{1, 2, 3, 4, 5, 6, 7, 8}}, {Ask{Least: math.MinInt64, Most: most}, []int{1, 2, 3, 4, 5, 6, 7, 8}}, {Ask{Kinds: []Kind{Sale}, Most: most}, []int{1, 2, 6}}, {Ask{Kinds: []Kind{Void, Refund, Refund, 99}, Most: most}, []int{5, 7, 8}},
		{Ask{Kinds: []Kind{0}, Most: most}, nil}, {Ask{Shift: 2, Most: most}, []int{2, 3, 4}}, {Ask{Shift: -2, Most: most}, nil}, {Ask{Account: 1, Most: most}, []int{1, 2}}, {Ask{Account: 3, Most: most}, []int{2}}, {Ask{Account: math.MinInt, Most: most}, nil},
		{Ask{Least: 300, Most: 500}, []int{1, 2, 4, 5}}, {Ask{Least: 301, Most: 499}, nil}, {Ask{Least: 500, Most: 300}, nil}, {Ask{Open: true, Most: most}, []int{2}}, {Ask{Open: true, Kinds: []Kind{Void}, Most: most}, nil}, {Ask{Kinds: []Kind{}, Shift: 2, Account: 1, Least: 300, Most: 300, Open: true}, []int{2}},
	} {
		if l := r.Find(x.a); !slices.Equal(l, x.want) {
			t.Errorf("%d: %v, not %v", i, l, x.want)
		}
	}
}

// fields: a register's fields from its parts.
func fields(next uint64, l ...string) string {
	s, _ := new(cur.Writer).Number(next, 5).Number(uint64(len(l)), 2).Bytes()
	return s + strings.Join(l, "")
}

// tx: a transaction's fields.
func tx(kind, shift, ref uint64, amount, left int64, void uint64, lines string) string {
	s, _ := new(cur.Writer).Number(kind, 1).Number(shift, 4).Number(ref, 4).Signed(amount).Signed(left).Number(void, 1).Bytes()
	return s + lines
}

// TestWrite holds P25.3: the fields.
func TestWrite(t *testing.T) {
	r := newRegister(t, 3, sold(9), Tx{Kind: Sale, Shift: 258, Amount: 500, Lines: lines(1, -2)}, voided(2, 500), Tx{Kind: Post, Shift: 1})
	var w cur.Writer
	r.Write(&w)
	(*Register)(nil).Write(&w)
	r.Write(nil)
	want := fields(5, tx(1, 258, 0, 500, 0, 1, "\x01\x00\x01\xff\xff\xff\xff\xff\xff\xff\xfe"), tx(2, 1, 2, 500, 0, 0, "\x00"), tx(6, 1, 0, 0, 0, 0, "\x00"))
	s, err := w.Bytes()
	if s != want || err != api.OK {
		t.Errorf("%x, %d", s, err)
	}
	f := cur.Read(s + "ab")
	q, err := Read(f, 4)
	if err != api.OK || !reflect.DeepEqual(q.List(), r.List()) || q.Next() != 5 || f.Left() != 2 {
		t.Errorf("%v, %d", q.List(), err)
	}
	for end := range len(s) {
		if q, err := Read(cur.Read(s[:end]), 4); q != nil || err != api.ErrForm {
			t.Errorf("the first %d bytes: %d", end, err)
		}
	}
}

// TestRead holds P25.3: what is no register's.
func TestRead(t *testing.T) {
	good := tx(1, 1, 0, 500, 300, 0, "\x00")
	for i, x := range []struct {
		s    string
		keep int
		want api.Errno
	}{
		{fields(3, good, good), 2, api.OK}, {fields(3, good, good), 1, api.ErrForm}, {fields(2, good, good), 2, api.ErrForm}, {fields(0), 2, api.ErrForm}, {fields(1), 2, api.OK}, {fields(1, good), 2, api.ErrForm}, {fields(1 << 32), 2, api.OK}, {fields(1<<32 + 1), 2, api.ErrForm}, {fields(1<<40 - 1), 2, api.ErrForm},
		{fields(9, tx(1, 1, 0, 500, 500, 0, "\x00")), 2, api.OK}, {fields(9, tx(1, 1, 0, 500, 0, 0, "\x00")), 2, api.OK}, {fields(9, tx(1, 1, 0, 500, 501, 0, "\x00")), 2, api.ErrForm}, {fields(9, tx(1, 1, 0, 500, -1, 0, "\x00")), 2, api.ErrForm}, {fields(9, tx(1, 1, 0, 500, 0, 1, "\x00")), 2, api.OK}, {fields(9, tx(1, 1, 0, 500, 1, 1, "\x00")), 2, api.ErrForm},
		{fields(9, tx(1, 1, 0, 500, 0, 2, "\x00")), 2, api.ErrForm}, {fields(9, tx(4, 1, 0, 500, 0, 0, "\x00")), 2, api.OK}, {fields(9, tx(4, 1, 0, 500, 1, 0, "\x00")), 2, api.ErrForm}, {fields(9, tx(4, 1, 0, 500, 0, 1, "\x00")), 2, api.ErrForm}, {fields(9, tx(2, 1, 8, 500, 0, 1, "\x00")), 2, api.ErrForm},
		{fields(9, tx(0, 1, 0, 500, 0, 0, "\x00")), 2, api.ErrForm}, {fields(9, tx(7, 1, 0, 500, 0, 0, "\x00")), 2, api.ErrForm}, {fields(9, tx(1, 0, 0, 500, 0, 0, "\x00")), 2, api.ErrForm}, {fields(9, tx(1, 1, 1, 500, 0, 0, "\x00")), 2, api.ErrForm}, {fields(9, tx(2, 1, 0, 500, 0, 0, "\x00")), 2, api.ErrForm},
		{fields(9, tx(1, 1, 0, 0, 0, 0, "\x00")), 2, api.ErrForm}, {fields(9, tx(1, 1, 0, 1<<62+1, 0, 0, "\x00")), 2, api.ErrForm}, {fields(9, tx(6, 1, 0, 1, 0, 0, "\x00")), 2, api.ErrForm}, {fields(9, tx(6, 1, 0, 0, 0, 0, "\x09"+strings.Repeat("\x00", 90))), 2, api.ErrForm},
	} {
		f := cur.Read(x.s)
		q, err := Read(f, x.keep)
		if err != x.want || (err != api.OK) != (q == nil) || err != api.OK && f.Left() != len(x.s) {
			t.Errorf("%d: %d, not %d", i, err, x.want)
		}
	}
	wrong := cur.Read(fields(1))
	wrong.Number(9)
	for _, f := range []*cur.Reader{nil, wrong} {
		if q, err := Read(f, 1); q != nil || err != api.ErrForm {
			t.Errorf("no reader: %d", err)
		}
	}
}
