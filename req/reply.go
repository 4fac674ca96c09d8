package req

import (
	"tillroll/api"
	"tillroll/cents"
	"tillroll/cur"
	"tillroll/post"
	"tillroll/sale"
	"tillroll/shift"
	"tillroll/state"
)

// Reply is what is answered.
type Reply struct {
	Err     api.Errno
	Number  int
	Totals  shift.Totals
	Tx      sale.Tx
	Amounts [2]cents.Cents
	Read    bool
}

// flag: a bool as a number.
func flag(b bool) uint64 {
	if b {
		return 1
	}
	return 0
}

// Encode: it as bytes, by what was asked.
func (r Reply) Encode(k Kind) string {
	if !k.right() {
		return ""
	}
	var w cur.Writer
	w.Number(uint64(r.Err), 1)
	if r.Err == api.OK {
		r.write(&w, k)
	}
	s, _ := w.Bytes()
	return s
}

// write: what stands behind no error.
func (r Reply) write(w *cur.Writer, k Kind) {
	switch k {
	case Balance:
		w.Signed(int64(r.Amounts[0]))
	case Tx:
		writeTx(w, r.Tx)
	case Totals:
		writeTotals(w, r.Totals)
	case Trial:
		w.Signed(int64(r.Amounts[0])).Signed(int64(r.Amounts[1]))
	case Status:
		w.Number(uint64(r.Number), 4).Number(uint64(r.Tx.Number), 5).Number(flag(r.Read), 1)
	default:
		w.Number(uint64(r.Number), 4)
		if k == Kind(state.End) {
			writeTotals(w, r.Totals)
		}
	}
}

// writeTx: a transaction without its number.
func writeTx(w *cur.Writer, t sale.Tx) {
	w.Number(uint64(t.Kind), 1).Number(uint64(t.Shift), 4).Number(uint64(t.Ref), 4)
	w.Signed(int64(t.Amount)).Signed(int64(t.Left)).Number(flag(t.Void), 1)
	t.Lines.Write(w)
}

// writeTotals: a shift's totals.
func writeTotals(w *cur.Writer, t shift.Totals) {
	w.Number(uint64(t.Count), 4)
	for _, c := range [5]cents.Cents{t.Sales, t.Voids, t.Refunds, t.Ins, t.Out} {
		w.Signed(int64(c))
	}
}

// ParseReply: the reply of bytes to a kind of request.
func ParseReply(k Kind, s string) (Reply, api.Errno) {
	if !k.right() {
		return Reply{}, api.ErrArg
	}
	f := cur.Read(s)
	r := Reply{Err: api.Errno(f.Number(1))}
	ok := true
	if r.Err == api.OK {
		ok = r.read(f, k)
	}
	if !ok || f.End() != api.OK {
		return Reply{}, api.ErrForm
	}
	return r, api.OK
}

// read: what stands behind no error; false, if it isn't that.
func (r *Reply) read(f *cur.Reader, k Kind) bool {
	ok := true
	switch k {
	case Balance:
		r.Amounts[0] = cents.Cents(f.Signed())
	case Tx:
		r.Tx, ok = readTx(f)
	case Totals:
		r.Totals = readTotals(f)
	case Trial:
		r.Amounts[0] = cents.Cents(f.Signed())
		r.Amounts[1] = cents.Cents(f.Signed())
	case Status:
		r.Number = int(f.Number(4))
		r.Tx.Number = int(f.Number(5))
		r.Read, ok = readFlag(f)
	default:
		r.Number = int(f.Number(4))
		if k == Kind(state.End) {
			r.Totals = readTotals(f)
		}
	}
	return ok
}

// readFlag: the next bool; false, if there is none.
func readFlag(f *cur.Reader) (bool, bool) {
	n := f.Number(1)
	return n == 1, n <= 1
}

// readTx: the next transaction without its number.
func readTx(f *cur.Reader) (sale.Tx, bool) {
	var t sale.Tx
	t.Kind = sale.Kind(f.Number(1))
	t.Shift = int(f.Number(4))
	t.Ref = int(f.Number(4))
	t.Amount = cents.Cents(f.Signed())
	t.Left = cents.Cents(f.Signed())
	void, ok := readFlag(f)
	t.Void = void
	l, err := post.Read(f)
	t.Lines = l
	return t, ok && err == api.OK
}

// readTotals: the next totals.
func readTotals(f *cur.Reader) shift.Totals {
	t := shift.Totals{Count: int(f.Number(4))}
	for _, c := range [5]*cents.Cents{&t.Sales, &t.Voids, &t.Refunds, &t.Ins, &t.Out} {
		*c = cents.Cents(f.Signed())
	}
	return t
}
