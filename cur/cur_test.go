package cur

import (
	"math"
	"strings"
	"testing"

	"tillroll/api"
)

// TestWrite holds P4.2: the fields' bytes, one behind the other.
func TestWrite(t *testing.T) {
	var w Writer
	if s, err := w.Bytes(); s != "" || err != api.OK {
		t.Errorf("nothing: %x, %d", s, err)
	}
	if w.Number(258, 2) != &w || w.Text("ab") != &w || w.Signed(-2) != &w {
		t.Error("another writer")
	}
	want := "\x01\x02\x02ab\xff\xff\xff\xff\xff\xff\xff\xfe"
	for range 2 {
		if s, err := w.Bytes(); s != want || err != api.OK {
			t.Errorf("Bytes = %x, %d", s, err)
		}
	}
	long := strings.Repeat("x", 255)
	if s, err := new(Writer).Text(long).Text("").Bytes(); s != "\xff"+long+"\x00" || err != api.OK {
		t.Errorf("a long text: %x, %d", s, err)
	}
}

// TestWrongWriter holds P4.2: what can't be written makes a writer wrong for good.
func TestWrongWriter(t *testing.T) {
	for name, bad := range map[string]func(*Writer){
		"too great":   func(w *Writer) { w.Number(256, 1) },
		"width 0":     func(w *Writer) { w.Number(0, 0) },
		"width 9":     func(w *Writer) { w.Number(0, 9) },
		"least width": func(w *Writer) { w.Number(0, math.MinInt) },
		"long text":   func(w *Writer) { w.Text(strings.Repeat("x", 256)) },
	} {
		w := new(Writer).Number(1, 1)
		bad(w)
		w.Number(2, 1).Text("a").Signed(3)
		if s, err := w.Bytes(); s != "" || err != api.ErrArg {
			t.Errorf("%s: %x, %d", name, s, err)
		}
	}
	var w *Writer
	if w.Number(1, 1) != nil || w.Signed(1) != nil || w.Text("a") != nil {
		t.Error("a nil writer is none any more")
	}
	if s, err := w.Bytes(); s != "" || err != api.ErrNil {
		t.Errorf("a nil writer: %x, %d", s, err)
	}
}

// TestRead holds P4.1 and P4.3: what was written is read, in order, and nothing is left.
func TestRead(t *testing.T) {
	s, _ := new(Writer).Number(math.MaxUint64, 8).Signed(math.MinInt64).Text("").Number(7, 3).Text("\x00\xff").Signed(5).Bytes()
	r := Read(s)
	if r.Left() != len(s) || r.Wrong() || r.End() != api.ErrForm {
		t.Error("a new reader")
	}
	if r.Number(8) != math.MaxUint64 || r.Signed() != math.MinInt64 || r.Text() != "" || r.Number(3) != 7 || r.Text() != "\x00\xff" {
		t.Error("the fields differ")
	}
	if r.Left() != 8 || r.End() != api.ErrForm || r.Signed() != 5 || r.Left() != 0 || r.Wrong() || r.End() != api.OK {
		t.Error("the end")
	}
	if Read("").End() != api.OK {
		t.Error("a reader of nothing")
	}
}

// TestWrongReader holds P4.1: a field that isn't there makes a reader wrong, and it reads no more.
func TestWrongReader(t *testing.T) {
	for name, bad := range map[string]func(*Reader){
		"few bytes":   func(r *Reader) { r.Number(5) },
		"signed":      func(r *Reader) { r.Signed() },
		"width 0":     func(r *Reader) { r.Number(0) },
		"width 9":     func(r *Reader) { r.Number(9) },
		"least width": func(r *Reader) { r.Number(math.MinInt) },
		"short text":  func(r *Reader) { r.Text() },
	} {
		r := Read("\x04abc")
		bad(r)
		if !r.Wrong() || r.Left() != 0 || r.Number(1) != 0 || r.Signed() != 0 || r.Text() != "" || r.End() != api.ErrForm {
			t.Errorf("%s: the reader goes on", name)
		}
	}
	r := Read("")
	if r.Text() != "" || !r.Wrong() {
		t.Error("a text of nothing")
	}
	r = nil
	if !r.Wrong() || r.Left() != 0 || r.Number(1) != 0 || r.Signed() != 0 || r.Text() != "" || r.End() != api.ErrNil {
		t.Error("a nil reader")
	}
}
