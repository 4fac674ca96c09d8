package cents

import (
	"math"
	"math/big"
	"slices"
	"strings"
	"testing"

	"tillroll/api"
)

const (
	most  = Cents(math.MaxInt64)
	least = Cents(math.MinInt64)
)

var amounts = []Cents{0, 1, -1, 2, -2, 3, 99, 100, -100, 1234, 1 << 31, -1 << 31, 1 << 32, 3037000499, 3037000500, -3037000500, 1 << 61, 1 << 62, -1 << 62, most / 2, most/2 + 1, most - 1, most, least / 2, least + 1, least}

// told is what must be told of an exact number.
func told(n *big.Int) (Cents, api.Errno) {
	if !n.IsInt64() {
		return 0, api.ErrOver
	}
	return Cents(n.Int64()), api.OK
}

// TestSums holds P3.1 for two amounts.
func TestSums(t *testing.T) {
	for _, a := range amounts {
		for _, b := range amounts {
			x, y := big.NewInt(int64(a)), big.NewInt(int64(b))
			for _, c := range []struct {
				name string
				call func() (Cents, api.Errno)
				want *big.Int
			}{
				{"Add", func() (Cents, api.Errno) { return Add(a, b) }, new(big.Int).Add(x, y)},
				{"Sub", func() (Cents, api.Errno) { return Sub(a, b) }, new(big.Int).Sub(x, y)},
				{"Times", func() (Cents, api.Errno) { return Times(a, int(b)) }, new(big.Int).Mul(x, y)},
			} {
				n, err := c.call()
				if want, e := told(c.want); n != want || err != e {
					t.Errorf("%s(%d, %d) = %d, %d, not %d, %d", c.name, a, b, n, err, want, e)
				}
			}
		}
	}
}

// TestTotal holds P3.1 for lists: only the whole sum counts, not one on the way.
func TestTotal(t *testing.T) {
	for _, x := range []struct {
		l    []Cents
		want Cents
		err  api.Errno
	}{
		{nil, 0, api.OK}, {[]Cents{}, 0, api.OK}, {[]Cents{5}, 5, api.OK},
		{[]Cents{most, 1, -1}, most, api.OK}, {[]Cents{least, -1, 1}, least, api.OK},
		{[]Cents{most, 1}, 0, api.ErrOver}, {[]Cents{least, -1}, 0, api.ErrOver},
		{[]Cents{most, most, most, least, least, least, 3}, 0, api.OK},
		{[]Cents{most, most, least, least}, -2, api.OK},
		{[]Cents{least, least, most, most, 2}, 0, api.OK},
		{[]Cents{least, least}, 0, api.ErrOver}, {[]Cents{most, most}, 0, api.ErrOver},
	} {
		if n, err := Total(x.l); n != x.want || err != x.err {
			t.Errorf("Total(%d) = %d, %d", x.l, n, err)
		}
	}
	many := make([]Cents, 5000)
	for i := range many {
		many[i] = []Cents{least, most}[i%2]
	}
	if n, err := Total(many); n != -2500 || err != api.OK {
		t.Errorf("Total of many = %d, %d", n, err)
	}
}

// TestOrder holds P3.3: a Total doesn't hang on the order.
func TestOrder(t *testing.T) {
	l := slices.Clone(amounts)
	n, err := Total(l)
	for i := range l {
		m := slices.Concat(l[i:], l[:i])
		if x, e := Total(m); x != n || e != err {
			t.Errorf("turned by %d: %d, %d, not %d, %d", i, x, e, n, err)
		}
	}
	if !slices.Equal(l, amounts) {
		t.Error("the list was changed")
	}
}

// TestText holds P3.2.
func TestText(t *testing.T) {
	for c, want := range map[Cents]string{
		0: "0.00", 5: "0.05", -5: "-0.05", 10: "0.10", 99: "0.99", 100: "1.00", -1234: "-12.34", 123456: "1234.56",
		most: "92233720368547758.07", least: "-92233720368547758.08",
	} {
		if s := c.Text(); s != want {
			t.Errorf("Text of %d = %s, not %s", c, s, want)
		}
	}
}

// TestParse holds P3.2 and P3.3: texts come back, and what is no amount's is told.
func TestParse(t *testing.T) {
	for _, c := range amounts {
		if n, err := Parse(c.Text()); n != c || err != api.OK {
			t.Errorf("Parse(%s) = %d, %d", c.Text(), n, err)
		}
	}
	for _, s := range []string{
		"", ".", "0", "00", "0.", ".00", "-.05", "0.0", "0.000", "00.00", "01.00", "-0.00", "+1.00", "--1.00", "1-.00", "1.0a", "1.-1", "1.+1",
		" 1.00", "1.00 ", "1,00", "1_0.00", "1.0.0", "1..00", "0x1.00", "１.00", "92233720368547758.08", "-92233720368547758.09", "100000000000000000000.00",
		"-", "-.", "abc", "1.00\n", "\xff.00", strings.Repeat("9", 5000) + ".00",
	} {
		if n, err := Parse(s); n != 0 || err != api.ErrForm {
			t.Errorf("Parse(%q) = %d, %d", s, n, err)
		}
	}
}
