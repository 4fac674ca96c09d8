package req

import (
	"math"
	"reflect"
	"strings"
	"testing"

	"tillroll/api"
	"tillroll/cents"
	"tillroll/chart"
	"tillroll/post"
	"tillroll/sale"
	"tillroll/shift"
	"tillroll/state"
)

const least, most = cents.Cents(math.MinInt64), cents.Cents(math.MaxInt64)

var (
	two = post.Posting{{Account: 1, Amount: 5}, {Account: 65535, Amount: -5}}
	key = uint64(0x0102030405060708)
)

const (
	key8  = "\x01\x02\x03\x04\x05\x06\x07\x08"
	two21 = "\x02\x00\x01\x00\x00\x00\x00\x00\x00\x00\x05\xff\xff\xff\xff\xff\xff\xff\xff\xff\xfb"
	five  = "\x00\x00\x00\x00\x00\x00\x00\x05"
)

// asked: each kind, as it comes back, and its bytes.
var asked = []struct {
	r Request
	s string
}{
	{Request{Kind: 1, Event: state.Event{Kind: 1, Account: chart.Account{Code: 258, Kind: chart.Expense, Name: "Rent"}}}, "\x01\x01\x02\x05\x04Rent"},
	{Request{Kind: 1, Event: state.Event{Kind: 1, Account: chart.Account{Kind: 255, Name: strings.Repeat("\xff", 255)}}}, "\x01\x00\x00\xff\xff" + strings.Repeat("\xff", 255)},
	{Request{Kind: 2, Event: state.Event{Kind: 2}}, "\x02"},
	{Request{Kind: 3, Event: state.Event{Kind: 3}}, "\x03"},
	{Request{Kind: 4, Event: state.Event{Kind: 4, Key: key, Lines: two}}, "\x04" + key8 + two21},
	{Request{Kind: 4, Event: state.Event{Kind: 4}}, "\x04" + strings.Repeat("\x00", 9)},
	{Request{Kind: 5, Event: state.Event{Kind: 5, Key: key, Ref: math.MaxUint32}}, "\x05" + key8 + "\xff\xff\xff\xff"},
	{Request{Kind: 6, Event: state.Event{Kind: 6, Key: key, Ref: 7, Amount: 5}}, "\x06" + key8 + "\x00\x00\x00\x07" + five},
	{Request{Kind: 7, Event: state.Event{Kind: 7, Key: key, Amount: 5, Account: chart.Account{Code: 65535}}}, "\x07" + key8 + five + "\xff\xff"},
	{Request{Kind: 8, Event: state.Event{Kind: 8, Key: key, Amount: -1}}, "\x08" + key8 + "\xff\xff\xff\xff\xff\xff\xff\xff\x00\x00"},
	{Request{Kind: 9, Event: state.Event{Kind: 9, Key: key, Lines: two}}, "\x09" + key8 + two21},
	{Request{Kind: Balance, N: 65535}, "\x0a\xff\xff"},
	{Request{Kind: Tx, N: math.MaxUint32}, "\x0b\xff\xff\xff\xff"},
	{Request{Kind: Totals, N: 258}, "\x0c\x00\x00\x01\x02"},
	{Request{Kind: Trial}, "\x0d"},
	{Request{Kind: Status}, "\x0e"},
}

// TestRequest holds P28.1 and P28.3: requests as bytes, and back.
func TestRequest(t *testing.T) {
	for i, x := range asked {
		if s, err := x.r.Encode(); s != x.s || err != api.OK {
			t.Errorf("%d: %x, %d", i, s, err)
		}
		if r, err := Decode(x.s); !reflect.DeepEqual(r, x.r) || err != api.OK {
			t.Errorf("%d: %v, %d", i, r, err)
		}
		for end := range len(x.s) {
			if r, err := Decode(x.s[:end]); !reflect.DeepEqual(r, Request{}) || err != api.ErrForm {
				t.Errorf("%d: the first %d bytes: %v, %d", i, end, r, err)
			}
		}
		if r, err := Decode(x.s + "\x00"); !reflect.DeepEqual(r, Request{}) || err != api.ErrForm {
			t.Errorf("%d: a byte more: %v, %d", i, r, err)
		}
	}
	for _, s := range []string{"\x00", "\x0f", "\xff", "\x04" + key8 + "\x09" + strings.Repeat("\x00", 90)} {
		if r, err := Decode(s); !reflect.DeepEqual(r, Request{}) || err != api.ErrForm {
			t.Errorf("%x: %v, %d", s, r, err)
		}
	}
}

// TestRequestWrong holds P28.1: what has no bytes; and that what a kind hasn't doesn't matter.
func TestRequestWrong(t *testing.T) {
	all := state.Event{Kind: 99, Key: key, Ref: 7, Amount: 5, Account: chart.Account{Code: 258, Kind: 5, Name: "Rent"}, Lines: two}
	for k := range 256 {
		s, err := Request{Kind: Kind(k), Event: all, N: 258}.Encode()
		if k < 1 || k > 14 {
			if s != "" || err != api.ErrArg {
				t.Errorf("kind %d: %x, %d", k, s, err)
			}
			continue
		}
		r, wrong := Decode(s)
		again, _ := r.Encode()
		if err != api.OK || wrong != api.OK || again != s {
			t.Errorf("kind %d: %x, %d; %v, %d", k, s, err, r, wrong)
		}
	}
	odd := state.Event{Key: math.MaxUint64, Ref: -1, Amount: least, Account: chart.Account{Code: 65536, Name: strings.Repeat("a", 256)}, Lines: make(post.Posting, 9)}
	for k, ok := range map[Kind]bool{1: false, 2: true, 3: true, 4: false, 5: false, 6: false, 7: false, 8: false, 9: false, Balance: false, Tx: false, Totals: false, Trial: true, Status: true} {
		s, err := Request{Kind: k, Event: odd, N: -1}.Encode()
		if ok != (err == api.OK) || !ok && (s != "" || err != api.ErrArg) {
			t.Errorf("kind %d: %x, %d", k, s, err)
		}
	}
	for i, r := range []Request{
		{Kind: Balance, N: 65536}, {Kind: Tx, N: math.MaxUint32 + 1}, {Kind: Totals, N: math.MinInt}, {Kind: 1, Event: state.Event{Account: chart.Account{Code: -1}}}, {Kind: 5, Event: state.Event{Ref: math.MaxUint32 + 1}},
		{Kind: 4, Event: state.Event{Lines: post.Posting{{Account: 65536}}}}, {Kind: 7, Event: state.Event{Account: chart.Account{Code: math.MinInt}}},
	} {
		if s, err := r.Encode(); s != "" || err != api.ErrArg {
			t.Errorf("%d: %x, %d", i, s, err)
		}
	}
}

// answered: replies, as they come back, and their bytes.
var answered = []struct {
	k Kind
	r Reply
	s string
}{
	{1, Reply{Number: 258}, "\x00\x00\x00\x01\x02"},
	{2, Reply{Number: 1}, "\x00\x00\x00\x00\x01"},
	{3, Reply{Number: 1, Totals: shift.Totals{Count: 2, Sales: 5, Voids: 5, Refunds: 5, Ins: 5, Out: -1}}, "\x00\x00\x00\x00\x01\x00\x00\x00\x02" + five + five + five + five + "\xff\xff\xff\xff\xff\xff\xff\xff"},
	{4, Reply{Number: math.MaxUint32}, "\x00\xff\xff\xff\xff"}, {5, Reply{}, "\x00\x00\x00\x00\x00"}, {9, Reply{}, "\x00\x00\x00\x00\x00"},
	{4, Reply{Err: api.ErrKey}, "\x11"}, {Status, Reply{Err: 255}, "\xff"}, {Tx, Reply{Err: api.ErrNone}, "\x0f"},
	{Balance, Reply{Amounts: [2]cents.Cents{5, 0}}, "\x00" + five},
	{Tx, Reply{Tx: sale.Tx{Kind: sale.Sale, Shift: 1, Ref: 2, Amount: 5, Left: 5, Void: true, Lines: two}}, "\x00\x01\x00\x00\x00\x01\x00\x00\x00\x02" + five + five + "\x01" + two21},
	{Tx, Reply{Tx: sale.Tx{Kind: 99}}, "\x00\x63" + strings.Repeat("\x00", 26)},
	{Totals, Reply{Totals: shift.Totals{Count: math.MaxUint32, Sales: 5}}, "\x00\xff\xff\xff\xff" + five + strings.Repeat("\x00", 32)},
	{Trial, Reply{Amounts: [2]cents.Cents{5, 5}}, "\x00" + five + five},
	{Status, Reply{Number: 1, Tx: sale.Tx{Number: 1 << 32}, Read: true}, "\x00\x00\x00\x00\x01\x01\x00\x00\x00\x00\x01"},
	{Status, Reply{}, "\x00" + strings.Repeat("\x00", 10)},
}

// TestReply holds P28.2 and P28.3: replies as bytes, and back.
func TestReply(t *testing.T) {
	for i, x := range answered {
		if s := x.r.Encode(x.k); s != x.s {
			t.Errorf("%d: %x", i, s)
		}
		if r, err := ParseReply(x.k, x.s); !reflect.DeepEqual(r, x.r) || err != api.OK {
			t.Errorf("%d: %v, %d", i, r, err)
		}
		for end := range len(x.s) {
			if r, err := ParseReply(x.k, x.s[:end]); !reflect.DeepEqual(r, Reply{}) || err != api.ErrForm {
				t.Errorf("%d: the first %d bytes: %v, %d", i, end, r, err)
			}
		}
		if r, err := ParseReply(x.k, x.s+"\x00"); !reflect.DeepEqual(r, Reply{}) || err != api.ErrForm {
			t.Errorf("%d: a byte more: %v, %d", i, r, err)
		}
	}
	full := Reply{Number: 1, Totals: shift.Totals{Count: 1, Sales: least}, Tx: sale.Tx{Number: 9, Kind: 1, Lines: two}, Amounts: [2]cents.Cents{least, most}, Read: true}
	for k := range 256 {
		s := full.Encode(Kind(k))
		r, err := ParseReply(Kind(k), s)
		if k < 1 || k > 14 {
			if s != "" || !reflect.DeepEqual(r, Reply{}) || err != api.ErrArg {
				t.Errorf("kind %d: %x, %d", k, s, err)
			}
		} else if err != api.OK || r.Encode(Kind(k)) != s {
			t.Errorf("kind %d: %x, %v, %d", k, s, r, err)
		}
	}
}

// TestReplyWrong holds P28.2: what has no bytes, and bytes that are no reply's.
func TestReplyWrong(t *testing.T) {
	for i, x := range []struct {
		k Kind
		r Reply
	}{
		{1, Reply{Err: -1}}, {1, Reply{Err: 256}}, {1, Reply{Number: -1}}, {4, Reply{Number: math.MaxUint32 + 1}}, {3, Reply{Totals: shift.Totals{Count: -1}}}, {Totals, Reply{Totals: shift.Totals{Count: math.MaxUint32 + 1}}},
		{Tx, Reply{Tx: sale.Tx{Shift: -1}}}, {Tx, Reply{Tx: sale.Tx{Ref: math.MinInt}}}, {Tx, Reply{Tx: sale.Tx{Lines: make(post.Posting, 9)}}}, {Status, Reply{Tx: sale.Tx{Number: 1 << 40}}}, {Status, Reply{Number: math.MinInt}},
	} {
		if s := x.r.Encode(x.k); s != "" {
			t.Errorf("%d: %x", i, s)
		}
	}
	if s := (Reply{Err: 5, Number: -1}).Encode(1); s != "\x05" {
		t.Errorf("beside an error: %x", s)
	}
	for _, x := range []struct {
		k Kind
		s string
	}{{Status, "\x00\x00\x00\x00\x01\x01\x00\x00\x00\x00\x02"}, {Tx, "\x00\x63" + strings.Repeat("\x00", 24) + "\x02\x00"}, {Tx, "\x00\x63" + strings.Repeat("\x00", 25) + "\x09" + strings.Repeat("\x00", 90)}} {
		if r, err := ParseReply(x.k, x.s); !reflect.DeepEqual(r, Reply{}) || err != api.ErrForm {
			t.Errorf("%x: %v, %d", x.s, r, err)
		}
	}
}
