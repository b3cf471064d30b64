package rational_test

import (
	"fmt"
	"math/big"
	"strings"
	"testing"

	"commonform/api"
	"commonform/integer"
	"commonform/rational"
)

func list(l ...int64) []integer.Int {
	var x []integer.Int
	for _, n := range l {
		x = append(x, integer.New(n))
	}
	return x
}

func texts(l []integer.Int) string {
	var words []string
	for _, x := range l {
		words = append(words, whole(x).String())
	}
	return strings.Join(words, " ")
}

func TestExpansion(t *testing.T) {
	for x, want := range map[string]string{"43/30": "1 2 3 4", "-3/2": "-2 2", "0": "0", "7": "7", "-7": "-7", "1/3": "0 3", "-1/3": "-1 1 2", "415/93": "4 2 6 7", "1/2": "0 2", "-43/30": "-2 1 1 3 4"} {
		if got := texts(ratio(t, x).Expansion()); got != want {
			t.Errorf("Expansion of %s: %s", x, got)
		}
	}
	for _, a := range fractions(7, 150, 250) {
		l := of(a).Expansion()
		for i, q := range l {
			if i > 0 && q.Sign() <= 0 || i > 0 && i == len(l)-1 && q.Cmp(integer.New(1)) <= 0 {
				t.Errorf("Expansion of %v: %s", a, texts(l))
			}
		}
		x, e := rational.Contract(l)
		fails(t, "Contract of Expansion", x, e, api.OK)
		same(t, "Contract of Expansion", x, a)
	}
}

func TestContract(t *testing.T) {
	for _, c := range []struct {
		l    []integer.Int
		want string
	}{{list(1, 2, 3, 4), "43/30"}, {list(0), "0"}, {list(-5), "-5"}, {list(0, 1), "1"}, {list(0, -2), "-1/2"}, {list(2, 0, 3), "5"}, {list(1, -3), "2/3"}, {list(1, 1, 1, 1), "5/3"}, {list(0, 0, 7), "7"}, {list(3, 2, -4), "25/7"}, {list(1, -1), "0"}, {list(-1, -2, -3), "-10/7"}} {
		x, e := rational.Contract(c.l)
		fails(t, "Contract of "+texts(c.l), x, e, api.OK)
		same(t, "Contract of "+texts(c.l), x, bigRatio(t, c.want))
	}
	for _, c := range []struct {
		l    []integer.Int
		want api.Errno
	}{{nil, api.ErrNone}, {[]integer.Int{}, api.ErrNone}, {list(1, 0), api.ErrZero}, {list(0, 0), api.ErrZero}, {list(5, 1, 0), api.ErrZero}, {list(5, 1, -1), api.ErrZero}, {list(2, 7, -1, 1), api.ErrZero}, {list(0, -1, 1), api.ErrZero}, {list(1, 2, 0, 0, 0), api.ErrZero}} {
		x, e := rational.Contract(c.l)
		fails(t, "Contract of "+texts(c.l), x, e, c.want)
	}
}

func TestSimplest(t *testing.T) {
	for _, c := range []struct{ low, high, want string }{
		{"31/100", "32/100", "5/16"}, {"-32/100", "-31/100", "-5/16"}, {"-1/2", "1/3", "0"}, {"0", "1/3", "0"}, {"-1/3", "0", "0"}, {"0", "0", "0"}, {"1/2", "5/2", "1"}, {"-5/2", "-1/2", "-1"}, {"2/3", "2/3", "2/3"}, {"-2/3", "-2/3", "-2/3"}, {"3", "7/2", "3"}, {"5/2", "3", "3"}, {"5/2", "9", "3"}, {"3", "9", "3"}, {"-9", "-3", "-3"}, {"7/3", "5/2", "5/2"}, {"7/3", "12/5", "7/3"}, {"-1000", "1", "0"}, {"1/1000", "1/999", "1/999"}, {"314/100", "315/100", "22/7"},
	} {
		x, e := rational.Simplest(ratio(t, c.low), ratio(t, c.high))
		fails(t, "Simplest", x, e, api.OK)
		same(t, "Simplest from "+c.low+" to "+c.high, x, bigRatio(t, c.want))
	}
	for _, c := range [][2]string{{"1", "0"}, {"1/3", "1/4"}, {"-1/4", "-1/3"}, {"0", "-1"}} {
		x, e := rational.Simplest(ratio(t, c[0]), ratio(t, c[1]))
		fails(t, "Simplest of bounds out of order", x, e, api.ErrOrder)
	}
}

// Simplest is the first one of all fractions, the simpler ones ahead, that lies between the bounds.
func TestSimplestOfAll(t *testing.T) {
	for n := int64(-30); n <= 30; n += 3 {
		for d := int64(1); d <= 12; d++ {
			for width := int64(0); width < 6; width++ {
				low := big.NewRat(n, d)
				high := new(big.Rat).Add(low, big.NewRat(width, 17))
				x, e := rational.Simplest(of(low), of(high))
				fails(t, "Simplest", x, e, api.OK)
				same(t, fmt.Sprintf("Simplest from %v to %v", low, high), x, firstBetween(low, high))
			}
		}
	}
}

func firstBetween(low, high *big.Rat) *big.Rat {
	for d := int64(1); ; d++ {
		for n := int64(0); n <= 40*d; n++ {
			for _, sign := range []int64{1, -1} {
				x := big.NewRat(sign*n, d)
				if low.Cmp(x) <= 0 && x.Cmp(high) <= 0 {
					return x
				}
			}
		}
	}
}

func isSimpler(x, y rational.Ratio) bool {
	if c := x.Denominator().Cmp(y.Denominator()); c != 0 {
		return c < 0
	}
	return x.Numerator().Abs().Cmp(y.Numerator().Abs()) < 0
}

func TestSimplestOfGreatOnes(t *testing.T) {
	l := fractions(8, 200, 400)
	for i := range len(l) - 2 {
		x, y, z := of(l[i]), of(l[i+1]), of(l[i+2])
		if x.Cmp(y) > 0 {
			x, y = y, x
		}
		s, e := rational.Simplest(x, y)
		fails(t, "Simplest", s, e, api.OK)
		if s.Cmp(x) < 0 || s.Cmp(y) > 0 {
			t.Errorf("Simplest of %v, %v does not lie there", l[i], l[i+1])
		}
		for _, other := range []rational.Ratio{x, y, z} {
			if other.Cmp(x) >= 0 && other.Cmp(y) <= 0 && isSimpler(other, s) {
				t.Errorf("Simplest of %v, %v is not the simplest one", l[i], l[i+1])
			}
		}
		wider, e := rational.Simplest(x.Sub(z.Abs()), y)
		fails(t, "Simplest of a wider range", wider, e, api.OK)
		if isSimpler(s, wider) {
			t.Errorf("Simplest in a wider range than %v, %v is less simple", l[i], l[i+1])
		}
	}
}

func TestParse(t *testing.T) {
	for _, c := range []struct {
		s     string
		radix int
		want  string
	}{{"+06/4", 10, "3/2"}, {"-06/4", 10, "-3/2"}, {"4/2", 10, "2"}, {"0/5", 10, "0"}, {"-0/5", 10, "0"}, {"7", 10, "7"}, {"-zz/Z", 36, "-37"}, {"ff/10", 16, "255/16"}, {"1/0003", 10, "1/3"}, {"+5", 10, "5"}} {
		x, e := rational.Parse(c.s, c.radix)
		fails(t, "Parse of "+c.s, x, e, api.OK)
		same(t, "Parse of "+c.s, x, bigRatio(t, c.want))
	}
	longest := strings.Repeat("9", api.MaxDigits/2) + "/" + strings.Repeat("7", api.MaxDigits/2-1)
	x, e := rational.Parse(longest, 10)
	fails(t, "Parse of 20000 bytes", x, e, api.OK)
	same(t, "Parse of 20000 bytes", x, bigRatio(t, longest))
	for _, c := range []struct {
		s     string
		radix int
		want  api.Errno
	}{
		{"1/0", 10, api.ErrZero}, {"0/0", 10, api.ErrZero}, {"-5/000", 10, api.ErrZero}, {"1/-2", 10, api.ErrForm}, {"1/+2", 10, api.ErrForm}, {"1/-0", 10, api.ErrForm}, {"1/2/3", 10, api.ErrForm}, {"1//3", 10, api.ErrForm}, {"/2", 10, api.ErrForm}, {"1/", 10, api.ErrForm}, {"/", 10, api.ErrForm}, {"", 10, api.ErrForm}, {"+/2", 10, api.ErrForm}, {"a/2", 10, api.ErrForm}, {"1/a", 10, api.ErrForm}, {"x/0", 10, api.ErrForm}, {"1/0/2", 10, api.ErrForm}, {" 1/2", 10, api.ErrForm}, {"1 /2", 10, api.ErrForm}, {"1/2 ", 10, api.ErrForm}, {"1.5", 10, api.ErrForm}, {"2/3", 3, api.ErrForm},
		{longest + "1", 10, api.ErrLarge}, {longest + "x", 10, api.ErrLarge}, {"1/" + strings.Repeat("0", api.MaxDigits), 10, api.ErrLarge}, {longest + "1", 1, api.ErrArg}, {"1/2", 37, api.ErrArg}, {"1/0", 1, api.ErrArg}, {"", 0, api.ErrArg}, {"x", -1, api.ErrArg},
	} {
		x, e := rational.Parse(c.s, c.radix)
		fails(t, "Parse of "+c.s[:min(len(c.s), 20)], x, e, c.want)
	}
}
