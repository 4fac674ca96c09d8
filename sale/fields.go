package sale

import (
	"tillroll/api"
	"tillroll/cents"
	"tillroll/cur"
	"tillroll/post"
)

// Write: it as fields.
func (r *Register) Write(w *cur.Writer) {
	if r == nil {
		return
	}
	w.Number(uint64(r.next), 5).Number(uint64(len(r.txs)), 2)
	for _, t := range r.txs {
		void := uint64(0)
		if t.Void {
			void = 1
		}
		w.Number(uint64(t.Kind), 1).Number(uint64(t.Shift), 4).Number(uint64(t.Ref), 4)
		w.Signed(int64(t.Amount)).Signed(int64(t.Left)).Number(void, 1)
		t.Lines.Write(w)
	}
}

// Read: the register of fields.
func Read(f *cur.Reader, keep int) (*Register, api.Errno) {
	r, err := New(keep)
	if err != api.OK {
		return nil, err
	}
	if f.Wrong() {
		return nil, api.ErrForm
	}
	// The fields are looked at ahead: if they aren't a register's, nothing is read.
	ahead := *f
	r.next = int(ahead.Number(5))
	n := int(ahead.Number(2))
	if r.next < 1 || r.next > maxNumber+1 || n > keep || n > r.next-1 {
		return nil, api.ErrForm
	}
	for i := range n {
		t, err := readTx(&ahead)
		if err != api.OK {
			return nil, err
		}
		t.Number = r.next - n + i
		r.txs = append(r.txs, t)
	}
	if ahead.Wrong() {
		return nil, api.ErrForm
	}
	*f = ahead
	return r, api.OK
}

// readTx: the next transaction.
func readTx(f *cur.Reader) (Tx, api.Errno) {
	var t Tx
	t.Kind = Kind(f.Number(1))
	t.Shift = int(f.Number(4))
	t.Ref = int(f.Number(4))
	t.Amount = cents.Cents(f.Signed())
	t.Left = cents.Cents(f.Signed())
	void := f.Number(1)
	t.Void = void == 1
	lines, err := post.Read(f)
	t.Lines = lines
	if err != api.OK || void > 1 || !t.right() || !t.settled() {
		return Tx{}, api.ErrForm
	}
	return t, api.OK
}

// settled: may so much be left of it?
func (t Tx) settled() bool {
	if t.Kind != Sale || t.Void {
		return t.Left == 0 && (t.Kind == Sale || !t.Void)
	}
	return t.Left >= 0 && t.Left <= t.Amount
}
