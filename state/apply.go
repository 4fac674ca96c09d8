package state

import (
	"tillroll/api"
	"tillroll/cents"
	"tillroll/keys"
	"tillroll/post"
	"tillroll/sale"
)

// maxBody is how many bytes what is asked by a key has, at most.
const maxBody = 255

// transactions is which one each event with a key is.
var transactions = [...]sale.Kind{Sale: sale.Sale, Void: sale.Void, Refund: sale.Refund, In: sale.In, Out: sale.Out, Post: sale.Post}

// Apply: something happens, or, with an error, nothing.
func (s *State) Apply(e Event, body string) (Result, api.Errno) {
	switch {
	case s == nil:
		return Result{}, api.ErrNil
	case e.Kind < Account || e.Kind > Post:
		return Result{}, api.ErrArg
	case e.Kind == Account:
		if err := s.chart.Add(e.Account); err != api.OK {
			return Result{}, err
		}
		return Result{Number: e.Account.Code}, api.OK
	case e.Kind == Start:
		n, err := s.shifts.Start()
		return Result{Number: n}, err
	case e.Kind == End:
		n, t, err := s.shifts.End()
		return Result{n, t}, err
	}
	return s.once(e, body)
}

// once: what happens with a key, if it didn't yet.
func (s *State) once(e Event, body string) (Result, api.Errno) {
	if len(body) > maxBody {
		return Result{}, api.ErrLong
	}
	n, err := s.keys.Match(e.Key, body)
	if err != api.ErrNone {
		return Result{Number: n}, err
	}
	t, err := s.transaction(e)
	if err != api.OK {
		return Result{}, err
	}
	n, err = s.enter(t)
	if err != api.OK {
		return Result{}, err
	}
	s.keys.Put(keys.Entry{Key: e.Key, Body: body, Number: n})
	return Result{Number: n}, api.OK
}

// transaction: what an event with a key asks for.
func (s *State) transaction(e Event) (sale.Tx, api.Errno) {
	t := sale.Tx{Kind: transactions[e.Kind], Shift: s.shifts.Open()}
	if t.Shift == 0 {
		return sale.Tx{}, api.ErrShift
	}
	if e.Kind == Void || e.Kind == Refund {
		t.Ref = e.Ref
	}
	err := api.OK
	switch e.Kind {
	case Void:
		t.Lines, t.Amount, err = s.contra(e.Ref)
	case Sale, Post:
		t.Lines, err = e.Lines, e.Lines.Check(s.chart)
	default:
		t.Lines, t.Amount, err = s.moved(e)
	}
	if e.Kind == Sale && err == api.OK {
		t.Amount, err = s.sold(e.Lines)
	}
	if err != api.OK {
		return sale.Tx{}, err
	}
	return t, api.OK
}

// amount: may it be a transaction's?
func amount(c cents.Cents) bool { return c >= 1 && c <= api.MaxCents }

// contra: the lines and the amount of a Void.
func (s *State) contra(ref int) (post.Posting, cents.Cents, api.Errno) {
	of, there := s.register.Get(ref)
	if !there || of.Kind != sale.Sale {
		return nil, 0, api.ErrNone
	}
	l, err := of.Lines.Contra()
	return l, of.Amount, err
}

// sold: the amount of a Sale.
func (s *State) sold(l post.Posting) (cents.Cents, api.Errno) {
	c, err := l.On(s.config.Cash)
	if err == api.OK && !amount(c) {
		err = api.ErrArg
	}
	return c, err
}

// moved: the lines and the amount of what moves cash.
func (s *State) moved(e Event) (post.Posting, cents.Cents, api.Errno) {
	if !amount(e.Amount) {
		return nil, 0, api.ErrArg
	}
	cash, other := e.Amount, e.Account.Code
	switch e.Kind {
	case Refund:
		cash, other = -cash, s.config.Returns
	case Out:
		cash = -cash
	}
	l := post.Posting{{Account: s.config.Cash, Amount: cash}, {Account: other, Amount: -cash}}
	return l, e.Amount, l.Check(s.chart)
}

// enter: a transaction is in the register, the books and the shift, or in none of them.
func (s *State) enter(t sale.Tx) (int, api.Errno) {
	r, b, f := s.Register(), s.Books(), s.Shifts()
	n, added := r.Add(t)
	wrong := [3]api.Errno{added, b.Apply(t.Lines), f.Add(t.Kind, t.Amount)}
	if wrong != ([3]api.Errno{}) {
		for _, err := range wrong {
			if err != api.OK {
				return 0, err
			}
		}
	}
	s.register, s.books, s.shifts = r, b, f
	return n, api.OK
}
