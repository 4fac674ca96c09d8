package rec

import (
	"slices"
	"strings"
	"testing"

	"tillroll/api"
	"tillroll/be"
	"tillroll/poly"
)

var table = poly.Make()

func body(n int) string { return strings.Repeat("b", n) }

func frame(t *testing.T, l ...Record) string {
	t.Helper()
	s, err := Frame(&table, l...)
	if err != api.OK {
		t.Fatalf("Frame: %d", err)
	}
	return s
}

// TestRight holds P19.1.
func TestRight(t *testing.T) {
	for _, x := range []struct {
		r    Record
		size int
	}{
		{Record{1, ""}, 7}, {Record{255, "abc"}, 10}, {Record{1, body(api.MaxRecord)}, 7 + api.MaxRecord}, {Record{0, ""}, 0}, {Record{0, "abc"}, 0}, {Record{1, body(api.MaxRecord + 1)}, 0}, {},
	} {
		if x.r.Right() != (x.size > 0) || x.r.Size() != x.size {
			t.Errorf("%d of %d bytes: %v, %d", x.r.Kind, len(x.r.Body), x.r.Right(), x.r.Size())
		}
	}
}

// TestFrame holds P19.1: the bytes.
func TestFrame(t *testing.T) {
	if s := frame(t); s != "" {
		t.Errorf("none: %x", s)
	}
	a, b := "\x00\x00\x07", "\x01\x02\x09"+body(258)
	want := a + be.Put(uint64(table.Sum(a)), 4) + b + be.Put(uint64(table.Sum(b)), 4)
	if s := frame(t, Record{7, ""}, Record{9, body(258)}); s != want {
		t.Errorf("Frame = %x", s)
	}
	for i, l := range [][]Record{{{}}, {{1, ""}, {0, "a"}}, {{1, ""}, {1, body(2049)}, {1, ""}}} {
		if s, err := Frame(&table, l...); s != "" || err != api.ErrArg {
			t.Errorf("%d: %x, %d", i, s, err)
		}
	}
	if s, err := Frame(nil, Record{}); s != "" || err != api.ErrNil {
		t.Errorf("no table: %x, %d", s, err)
	}
}

// TestParse holds P19.2 and P19.3: records come back; a beginning that isn't whole records doesn't.
func TestParse(t *testing.T) {
	l := []Record{{1, ""}, {2, "ab"}, {3, body(300)}, {255, body(2048)}, {1, "\x00"}}
	s := frame(t, l...)
	whole := map[int]int{}
	for n := range len(l) + 1 {
		whole[len(frame(t, l[:n]...))] = n
	}
	for end := range len(s) + 1 {
		got, err := Parse(&table, s[:end])
		n, ok := whole[end]
		if ok && (err != api.OK || !slices.Equal(got, l[:n])) || !ok && (err != api.ErrForm || len(got) != 0) {
			t.Fatalf("the first %d bytes: %d records, %d", end, len(got), err)
		}
	}
}

// TestWrong holds P19.2: the first place where something is wrong is told.
func TestWrong(t *testing.T) {
	good := frame(t, Record{5, "abc"})
	bad := good[:len(good)-1] + "\x00"
	for i, x := range []struct {
		s    string
		want api.Errno
	}{
		{"\x00", api.ErrForm}, {good + "\x00\x00\x01\x00\x00\x00", api.ErrForm}, {"\x00\x00\x00" + be.Put(uint64(table.Sum("\x00\x00\x00")), 4), api.ErrForm},
		{"\x08\x01\x01" + body(2049) + be.Put(uint64(table.Sum("\x08\x01\x01"+body(2049))), 4), api.ErrForm}, {"\xff\xff\x01" + body(70000), api.ErrForm},
		{"\x00\x04\x01abc" + "\x00\x00\x00\x00", api.ErrForm}, {bad, api.ErrSum}, {bad + "\x00", api.ErrSum}, {good + bad, api.ErrSum}, {good + "\x00" + bad, api.ErrSum},
		{"\x00\x03\x06abc" + good[6:], api.ErrSum}, {"\x00\x03\x05abd" + good[6:], api.ErrSum},
	} {
		if l, err := Parse(&table, x.s); len(l) != 0 || err != x.want {
			t.Errorf("%d: %v, %d", i, l, err)
		}
	}
	if l, err := Parse(nil, "\x00"); l != nil || err != api.ErrNil {
		t.Errorf("no table: %d", err)
	}
	if l, err := Parse(&table, ""); len(l) != 0 || err != api.OK {
		t.Errorf("nothing: %d", err)
	}
}
