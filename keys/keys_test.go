package keys

import (
	"math"
	"slices"
	"strings"
	"testing"

	"tillroll/api"
	"tillroll/cur"
)

func told(t *testing.T, what string, err, want api.Errno) {
	t.Helper()
	if err != want {
		t.Errorf("%s: %d, not %d", what, err, want)
	}
}

func newKeys(t *testing.T, limit int, l ...Entry) *Keys {
	t.Helper()
	k, err := New(limit)
	told(t, "New", err, api.OK)
	for _, e := range l {
		told(t, "Put", k.Put(e), api.OK)
	}
	return k
}

func matches(t *testing.T, k *Keys, key uint64, body string, want int, wanted api.Errno) {
	t.Helper()
	if n, err := k.Match(key, body); n != want || err != wanted {
		t.Errorf("Match(%d, %q) = %d, %d, not %d, %d", key, body, n, err, want, wanted)
	}
}

// TestNew holds P24.1: what a limit may be.
func TestNew(t *testing.T) {
	for _, n := range []int{1, 64} {
		newKeys(t, n)
	}
	for _, n := range []int{0, -1, 65, math.MinInt, math.MaxInt} {
		if k, err := New(n); k != nil || err != api.ErrArg {
			t.Errorf("New(%d): %d", n, err)
		}
		if k, err := Read(nil, n); k != nil || err != api.ErrArg {
			t.Errorf("Read of %d: %d", n, err)
		}
	}
}

// TestMatch holds P24.1 and P24.3: what was asked, asked again, and asked otherwise.
func TestMatch(t *testing.T) {
	k := newKeys(t, 2, Entry{5, "five", 1}, Entry{math.MaxUint64, "", math.MaxUint32})
	matches(t, k, 5, "five", 1, api.OK)
	matches(t, k, 5, "Five", 0, api.ErrKey)
	matches(t, k, 5, "", 0, api.ErrKey)
	matches(t, k, math.MaxUint64, "", math.MaxUint32, api.OK)
	matches(t, k, 6, "five", 0, api.ErrNone)
	told(t, "Put", k.Put(Entry{6, "six", 2}), api.OK)
	matches(t, k, 5, "five", 0, api.ErrNone)
	matches(t, k, 6, "six", 2, api.OK)
	told(t, "Put", k.Put(Entry{5, "other", 7}), api.OK)
	matches(t, k, 5, "other", 7, api.OK)
	matches(t, k, math.MaxUint64, "", 0, api.ErrNone)
	if !slices.Equal(k.List(), []Entry{{6, "six", 2}, {5, "other", 7}}) {
		t.Errorf("%v", k.List())
	}
	one := newKeys(t, 1, Entry{5, "", 1}, Entry{6, "", 2})
	matches(t, one, 5, "", 0, api.ErrNone)
	matches(t, one, 6, "", 2, api.OK)
}

// TestPut holds P24.1: wrong entries, which change nothing.
func TestPut(t *testing.T) {
	k := newKeys(t, 1, Entry{5, strings.Repeat("b", 255), 1})
	for i, x := range []struct {
		e    Entry
		want api.Errno
	}{
		{Entry{6, strings.Repeat("b", 256), 1}, api.ErrArg}, {Entry{6, "", 0}, api.ErrArg}, {Entry{6, "", -1}, api.ErrArg}, {Entry{6, "", math.MaxUint32 + 1}, api.ErrArg}, {Entry{6, "", math.MinInt}, api.ErrArg}, {Entry{6, "", math.MaxInt}, api.ErrArg},
		{Entry{5, "", 0}, api.ErrArg}, {Entry{5, "", 1}, api.ErrThere}, {Entry{5, strings.Repeat("b", 255), 1}, api.ErrThere},
	} {
		if err := k.Put(x.e); err != x.want {
			t.Errorf("%d: %d, not %d", i, err, x.want)
		}
	}
	matches(t, k, 5, strings.Repeat("b", 255), 1, api.OK)
	var none *Keys
	told(t, "nil", none.Put(Entry{}), api.ErrNil)
	matches(t, none, 1, "", 0, api.ErrNil)
	if len(none.List()) != 0 || none.Copy() != nil {
		t.Error("nil keys")
	}
}

// TestCopy holds P24.1.
func TestCopy(t *testing.T) {
	a := newKeys(t, 2, Entry{1, "a", 1}, Entry{2, "b", 2})
	b := a.Copy()
	told(t, "Put", a.Put(Entry{3, "c", 3}), api.OK)
	told(t, "Put", b.Put(Entry{4, "d", 4}), api.OK)
	if !slices.Equal(a.List(), []Entry{{2, "b", 2}, {3, "c", 3}}) || !slices.Equal(b.List(), []Entry{{2, "b", 2}, {4, "d", 4}}) {
		t.Errorf("%v, %v", a.List(), b.List())
	}
	a.List()[0].Body = "x"
	matches(t, a, 2, "b", 2, api.OK)
}

// TestFields holds P24.2: the fields, what comes back of them, and what are none.
func TestFields(t *testing.T) {
	k := newKeys(t, 3, Entry{258, "ab", 1}, Entry{0, "", math.MaxUint32})
	var w cur.Writer
	k.Write(&w)
	(*Keys)(nil).Write(&w)
	k.Write(nil)
	s, err := w.Bytes()
	if s != "\x02\x00\x00\x00\x00\x00\x00\x01\x02\x02ab\x00\x00\x00\x01\x00\x00\x00\x00\x00\x00\x00\x00\x00\xff\xff\xff\xff" || err != api.OK {
		t.Errorf("%x, %d", s, err)
	}
	r := cur.Read(s + "xy")
	b, err := Read(r, 2)
	if err != api.OK || !slices.Equal(b.List(), k.List()) || r.Left() != 2 {
		t.Errorf("%v, %d", b.List(), err)
	}
	told(t, "Put", b.Put(Entry{9, "", 1}), api.OK)
	if len(b.List()) != 2 {
		t.Error("the limit isn't that of the call")
	}
	for end := range len(s) {
		if b, err := Read(cur.Read(s[:end]), 3); b != nil || err != api.ErrForm {
			t.Errorf("the first %d bytes: %d", end, err)
		}
	}
	key := "\x00\x00\x00\x00\x00\x00\x00\x07"
	for i, x := range []struct {
		s     string
		limit int
	}{{s, 1}, {"\x01" + key + "\x00\x00\x00\x00\x00", 3}, {"\x02" + key + "\x00\x00\x00\x00\x01" + key + "\x01a\x00\x00\x00\x02", 3}, {"\x41", 64}} {
		r := cur.Read(x.s)
		if b, err := Read(r, x.limit); b != nil || err != api.ErrForm || r.Left() != len(x.s) {
			t.Errorf("%d: %d", i, err)
		}
	}
	wrong := cur.Read("\x00")
	wrong.Number(9)
	for _, r := range []*cur.Reader{nil, wrong} {
		if b, err := Read(r, 1); b != nil || err != api.ErrForm {
			t.Errorf("no reader: %d", err)
		}
	}
}
