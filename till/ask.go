package till

import (
	"tillroll/api"
	"tillroll/rec"
	"tillroll/req"
	"tillroll/state"
)

// Ask: a request, and its reply.
func (t *Till) Ask(q req.Request) req.Reply {
	if t == nil {
		return req.Reply{Err: api.ErrNil}
	}
	answer := t.wrong
	switch {
	case changes(q.Kind):
		answer = t.happen
	case q.Kind >= req.Balance && q.Kind <= req.Status:
		answer = t.tell
	}
	r, err := answer(q)
	if err != api.OK {
		return req.Reply{Err: err}
	}
	return r
}

// wrong: a request of no kind.
func (t *Till) wrong(req.Request) (req.Reply, api.Errno) { return req.Reply{}, api.ErrArg }

// tell: a query, from the state.
func (t *Till) tell(q req.Request) (req.Reply, api.Errno) {
	var r req.Reply
	there, err := true, api.OK
	switch q.Kind {
	case req.Balance:
		r.Amounts[0] = t.state.Books().Balance(q.N)
	case req.Tx:
		r.Tx, there = t.state.Register().Get(q.N)
		r.Tx.Number = 0
	case req.Totals:
		r.Totals, there = t.state.Shifts().Totals(q.N)
	case req.Trial:
		r.Amounts[0], r.Amounts[1], err = t.state.Books().Trial()
	case req.Status:
		r.Number = t.state.Shifts().Open()
		r.Tx.Number = t.state.Register().Next()
		r.Read = t.disk.Stat().Read
	}
	if !there {
		err = api.ErrNone
	}
	return r, err
}

// happen: a request that changes something: in a copy of the state first, which is the till's when it is recorded.
func (t *Till) happen(q req.Request) (req.Reply, api.Errno) {
	body, err := q.Encode()
	if err != api.OK {
		return req.Reply{}, err
	}
	if err := t.again(); err != api.OK {
		return req.Reply{}, err
	}
	e := q.Event
	e.Kind = state.Kind(q.Kind)
	next := t.state.Copy()
	result, err := next.Apply(e, body)
	if err != api.OK {
		return req.Reply{}, err
	}
	if !t.did(e, body) {
		if err := t.record(body); err != api.OK {
			return req.Reply{}, err
		}
		t.state = next
	}
	return req.Reply{Number: result.Number, Totals: result.Totals}, api.OK
}

// did: is it a request whose key is kept, with just this?
func (t *Till) did(e state.Event, body string) bool {
	_, err := t.state.Keys().Match(e.Key, body)
	return e.Kind >= state.Sale && err == api.OK
}

// record: a request is in the journal, which is renewed first, if it has no room.
func (t *Till) record(body string) api.Errno {
	r := rec.Record{Kind: change, Body: body}
	err := t.journal.Append(r)
	if full(err) {
		err = t.renew()
		if err == api.OK {
			err = noSpace(t.journal.Append(r))
		}
	}
	t.cut = err == api.ErrPower
	return err
}

// full: has the journal no room, by its error?
func full(err api.Errno) bool { return err == api.ErrFull || err == api.ErrLong }

// noSpace: what is told where a journal that was renewed has no room still.
func noSpace(err api.Errno) api.Errno {
	if full(err) {
		return api.ErrSpace
	}
	return err
}

// renew: the journal's snapshot is the state as it is.
func (t *Till) renew() api.Errno {
	text, err := t.state.Text()
	if err != api.OK {
		return err
	}
	err = t.journal.Renew(text)
	if err == api.ErrLong {
		return api.ErrSpace
	}
	return err
}
