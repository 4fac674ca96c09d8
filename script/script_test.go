package script

import (
	"strings"
	"testing"

	"tillroll/api"
	"tillroll/cents"
	"tillroll/chart"
	"tillroll/post"
	"tillroll/req"
	"tillroll/state"
)

const (
	chipLine = "chip 11 10 128"
	makeLine = "make 0 31 4 6 12 6 4 3 1 2"
)

// ask: the line of a request.
func ask(k state.Kind, e state.Event) string {
	s, _ := req.Request{Kind: req.Kind(k), Event: e}.Encode()
	return "ask " + Hex(s)
}

func account(code int, k chart.Kind, name string) string {
	return ask(state.Account, state.Event{Account: chart.Account{Code: code, Kind: k, Name: name}})
}

func sold(key uint64, n cents.Cents) string {
	return ask(state.Sale, state.Event{Key: key, Lines: post.Posting{{Account: 1, Amount: n}, {Account: 3, Amount: -n}}})
}

// answers: what a new console answers to lines.
func answers(t *testing.T, l ...[2]string) {
	t.Helper()
	c := New()
	for i, x := range l {
		if s := c.Do(x[0]); s != x[1] {
			t.Errorf("%d: %q: %q, not %q", i, x[0], s, x[1])
		}
	}
}

// TestHex holds P30.1.
func TestHex(t *testing.T) {
	for s, want := range map[string]string{"": "-", "\x00": "00", "\x0f\xf0\xab": "0ff0ab", "az": "617a"} {
		if Hex(s) != want {
			t.Errorf("Hex(%x) = %s", s, Hex(s))
		}
		if b, ok := Unhex(want); b != s || !ok {
			t.Errorf("Unhex(%s) = %x, %v", want, b, ok)
		}
	}
	for _, s := range []string{"", "0", "000", "0g", "g0", "AB", "0A", "--", " 00", "00 ", "-00", "0x", "\xff\xff", "0-"} {
		if b, ok := Unhex(s); b != "" || ok {
			t.Errorf("Unhex(%q) = %x, %v", s, b, ok)
		}
	}
}

// TestExample holds the chapter's example, and P30.2 of Run.
func TestExample(t *testing.T) {
	s, err := Run(chipLine + "\n\n" + makeLine + "\n\n\nask 02")
	if s != "ok\nok\nok 0000000001\n" || err != api.OK {
		t.Errorf("%q, %d", s, err)
	}
	if s, err := Run(""); s != "" || err != api.OK {
		t.Errorf("%q, %d", s, err)
	}
	if s, err := Run("\n\nx y\n \n"); s != "error 60\nerror 60\n" || err != api.OK {
		t.Errorf("%q, %d", s, err)
	}
	if s, err := Run(strings.Repeat("\n", api.MaxScript)); s != "" || err != api.OK {
		t.Errorf("%d bytes, %d", len(s), err)
	}
	if s, err := Run(strings.Repeat("\n", api.MaxScript+1)); s != "" || err != api.ErrLong {
		t.Errorf("%d bytes, %d", len(s), err)
	}
}

// TestFull holds P30.2: as many bytes of answers as there may be, and more.
func TestFull(t *testing.T) {
	begin := chipLine + "\n" + makeLine + "\n"
	for i := range 16 {
		begin += account(1+i, chart.Asset, strings.Repeat("n", 24)) + "\n"
	}
	first, _ := Run(begin)
	one, _ := Run(begin + "books")
	each := len(one) - len(first)
	n := (api.MaxAnswer-len(first))/each - 1
	rest := api.MaxAnswer - len(first) - n*each
	// The answers of the first lines take 3 bytes each, of the others 8.
	wrong := 2 * rest % 3
	begin += strings.Repeat("books\n", n) + strings.Repeat("chip 1 1 1\n", wrong) + strings.Repeat("cut 1 -\n", (rest-8*wrong)/3)
	if s, err := Run(begin); len(s) != api.MaxAnswer || err != api.OK {
		t.Errorf("%d bytes, %d", len(s), err)
	}
	if s, err := Run(begin + "x"); s != "" || err != api.ErrFull {
		t.Errorf("%d bytes, %d", len(s), err)
	}
}

// TestErrors holds P30.2: the order of errors.
func TestErrors(t *testing.T) {
	var none *Console
	if s := none.Do(chipLine); s != "error 1" {
		t.Errorf("a nil console: %s", s)
	}
	answers(t,
		[2]string{"", "error 60"}, [2]string{" ", "error 60"}, [2]string{" stat", "error 60"}, [2]string{"Stat", "error 60"}, [2]string{"stats x", "error 60"}, [2]string{"chip\t1", "error 60"},
		[2]string{"chip", "error 61"}, [2]string{"chip 11 10", "error 61"}, [2]string{"chip x", "error 61"}, [2]string{"make 0 31 4 6 12 6 4 3 1", "error 61"}, [2]string{makeLine + " 1", "error 61"}, [2]string{"mount ", "error 61"}, [2]string{"ask", "error 61"},
		[2]string{"ask 02 02", "error 61"}, [2]string{"cut 1", "error 61"}, [2]string{"cut 1 - -", "error 61"}, [2]string{"wreck", "error 61"}, [2]string{"wreck 1 1", "error 61"}, [2]string{"stat x", "error 61"}, [2]string{"shift", "error 61"}, [2]string{"left ", "error 61"},
		[2]string{"chip 11 10 ", "error 62"}, [2]string{"chip 11  10", "error 62"}, [2]string{"chip 11 10 128 x", "error 62"}, [2]string{"chip 011 10 128", "error 62"}, [2]string{"chip +11 10 128", "error 62"}, [2]string{"chip -1 10 128", "error 62"}, [2]string{"chip 2147483648 10 128", "error 62"},
		[2]string{"chip 99999999999999999999 10 128", "error 62"}, [2]string{"chip 1_1 10 128", "error 62"}, [2]string{"make 0 31 4 6 12 6 4 3 1 x", "error 62"}, [2]string{"ask 0", "error 62"}, [2]string{"ask ", "error 62"}, [2]string{"ask 0A", "error 62"}, [2]string{"cut x -", "error 62"}, [2]string{"cut 1 x", "error 62"}, [2]string{"shift -", "error 62"},
		[2]string{makeLine, "error 8"}, [2]string{"mount", "error 8"}, [2]string{"ask 02", "error 8"}, [2]string{"cut 1 -", "error 8"}, [2]string{"wreck 1", "error 8"}, [2]string{"chipped", "error 8"},
		[2]string{"chip 3 10 128", "error 2"}, [2]string{"chip 2147483647 10 128", "error 2"}, [2]string{chipLine + " 99 0", "ok"}, [2]string{"mount", "error 8"},
		[2]string{"ask 02", "error 8"}, [2]string{"stat", "error 8"}, [2]string{"know", "error 8"}, [2]string{"audit", "error 8"}, [2]string{"books", "error 8"}, [2]string{"sheet", "error 8"}, [2]string{"shift 1", "error 8"}, [2]string{"left", "error 8"}, [2]string{"chipped", "ok 0 0 0"},
	)
}

// TestState holds P30.2: what a new chip, a make and a mount leave.
func TestState(t *testing.T) {
	answers(t,
		[2]string{chipLine, "ok"}, [2]string{"make 0 0 4 6 12 6 4 3 1 2", "error 2"}, [2]string{"stat", "error 8"}, [2]string{"mount", "error 2"}, [2]string{makeLine, "ok"}, [2]string{"stat", "ok 0 8 2 0 1 2 0"}, [2]string{"chip 1 1 1", "error 2"}, [2]string{"ask 02", "ok 0000000001"},
		[2]string{"make 0 31 4 6 15 6 4 3 1 2", "error 2"}, [2]string{"ask 02", "error 8"}, [2]string{"mount", "error 2"}, [2]string{makeLine, "ok"}, [2]string{"ask 0e", "ok 0000000000000000000100"}, [2]string{chipLine, "ok"}, [2]string{"mount", "error 8"}, [2]string{"ask 02", "error 8"}, [2]string{makeLine, "ok"},
		[2]string{"cut 1 -", "ok"}, [2]string{"ask 02", "ok 09"}, [2]string{"audit", "error 9"}, [2]string{makeLine, "error 9"}, [2]string{"ask 02", "error 8"}, [2]string{"mount", "ok"}, [2]string{"ask 0e", "ok 0000000000000000000100"}, [2]string{"cut 1 -", "ok"}, [2]string{"cut 0 -", "ok"}, [2]string{"ask 02", "ok 0000000001"},
		[2]string{"cut 2 000102", "ok"}, [2]string{"mount", "ok"}, [2]string{"ask 0e", "ok 0000000001000000000100"}, [2]string{"ask -", "ok 04"}, [2]string{"ask ff", "ok 04"}, [2]string{"audit", "ok"},
	)
}

// TestTill holds P30.2: what the lines tell of a till.
func TestTill(t *testing.T) {
	c := New()
	for _, line := range []string{chipLine, makeLine} {
		if s := c.Do(line); s != "ok" {
			t.Fatalf("%s: %s", line, s)
		}
	}
	for i, x := range [][2]string{
		{"know", "ok 000000000000000001000000000000010000"}, {"books", "ok"}, {"sheet", "ok 0.00 0.00 0.00 0.00 0.00 0.00"}, {"shift 1", "ok"}, {"left", "ok"},
		{account(1, chart.Asset, "Cash"), "ok 0000000001"}, {account(2, chart.Expense, "Back"), "ok 0000000002"}, {account(3, chart.Income, "Sales, all"), "ok 0000000003"}, {account(4, chart.Liability, "Debt"), "ok 0000000004"}, {account(5, chart.Equity, "Own"), "ok 0000000005"},
		{sold(1, 500), "ok 14"}, {"ask 02", "ok 0000000001"}, {sold(1, 500), "ok 0000000001"}, {sold(1, 500), "ok 0000000001"}, {sold(1, 501), "ok 11"}, {sold(2, 700), "ok 0000000002"},
		{ask(state.Refund, state.Event{Key: 3, Ref: 1, Amount: 200}), "ok 0000000003"}, {ask(state.Void, state.Event{Key: 4, Ref: 1}), "ok 16"}, {"left", "ok 1 2"}, {ask(state.Void, state.Event{Key: 4, Ref: 2}), "ok 0000000004"}, {"left", "ok 1"},
		{"books", "ok/1 Cash 3.00/2 Back 2.00/3 Sales, all -5.00/4 Debt 0.00/5 Own 0.00"}, {"sheet", "ok 3.00 0.00 0.00 -5.00 2.00 3.00"},
		{"shift 1", "ok/shift 1 open/count 4/sales 12.00/voids 7.00/refunds 2.00/ins 0.00/out 0.00/till 3.00"}, {"shift 2", "ok"}, {"ask 03", "ok 00000000010000000400000000000004b000000000000002bc00000000000000c800000000000000000000000000000000"},
		{"shift 1", "ok/shift 1 closed/count 4/sales 12.00/voids 7.00/refunds 2.00/ins 0.00/out 0.00/till 3.00"}, {"audit", "ok"}, {"ask 0a0001", "ok 00000000000000012c"}, {"mount", "ok"}, {"audit", "ok"}, {"ask 0a0001", "ok 00000000000000012c"}, {"left", "ok 1"},
	} {
		if s := c.Do(x[0]); s != x[1] {
			t.Errorf("%d: %s: %s, not %s", i, x[0], s, x[1])
		}
	}
	s, _ := c.till.State().Text()
	if got := c.Do("know"); got != "ok "+Hex(s) {
		t.Errorf("know: %s", got)
	}
	c.Do("ask 02")
	c.Do(ask(state.Post, state.Event{Key: 9, Lines: post.Posting{{Account: 1, Amount: 1 << 62}, {Account: 3, Amount: -1 << 62}}}))
	c.Do(ask(state.Post, state.Event{Key: 10, Lines: post.Posting{{Account: 2, Amount: -1 << 62}, {Account: 4, Amount: 1 << 62}}}))
	if got := c.Do("sheet"); got != "error 6" {
		t.Errorf("sheet: %s", got)
	}
}

// TestWreck holds P30.2: blocks that fail, and a till that can only be read.
func TestWreck(t *testing.T) {
	c := New()
	c.Do(chipLine)
	c.Do(makeLine)
	for b := range 12 {
		if s := c.Do("wreck " + string("0123456789"[b%10])); s != "ok" {
			t.Errorf("wreck: %s", s)
		}
	}
	c.Do("wreck 10")
	if s := c.Do("wreck 999"); s != "ok" {
		t.Errorf("wreck: %s", s)
	}
	for range 5 {
		c.Do("ask 02")
		c.Do("ask 03")
	}
	if s := c.Do("ask 0e"); !strings.HasSuffix(s, "01") {
		t.Errorf("Status: %s", s)
	}
	if s := c.Do("stat"); !strings.HasSuffix(s, " 1") {
		t.Errorf("stat: %s", s)
	}
	if s := c.Do("chipped"); !strings.HasSuffix(s, " 0") || !strings.HasPrefix(s, "ok ") {
		t.Errorf("chipped: %s", s)
	}
	if s := c.Do("audit"); s != "ok" {
		t.Errorf("audit: %s", s)
	}
}
