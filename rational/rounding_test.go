package rational_test

import (
	"math"
	"math/big"
	"testing"

	"commonform/api"
	"commonform/rational"
)

func TestWays(t *testing.T) {
	if rational.Floor != 0 || rational.Ceiling != 1 || rational.Truncate != 2 || rational.Round != 3 {
		t.Error("the numbers of the ways")
	}
}

func TestQuotientExamples(t *testing.T) {
	for _, c := range []struct {
		x, y string
		way  int
		q, r string
	}{
		{"-7/2", "2", rational.Floor, "-2", "1/2"}, {"-7/2", "2", rational.Ceiling, "-1", "-3/2"}, {"-7/2", "2", rational.Truncate, "-1", "-3/2"}, {"-7/2", "2", rational.Round, "-2", "1/2"},
		{"5", "2", rational.Round, "2", "1"}, {"7", "2", rational.Round, "4", "-1"}, {"-5", "2", rational.Round, "-2", "-1"}, {"-7", "2", rational.Round, "-4", "1"}, {"1", "2", rational.Round, "0", "1"}, {"-1", "2", rational.Round, "0", "-1"}, {"3", "2", rational.Round, "2", "-1"}, {"-3", "2", rational.Round, "-2", "1"},
		{"7", "-2", rational.Floor, "-4", "-1"}, {"7", "-2", rational.Ceiling, "-3", "1"}, {"7", "-2", rational.Truncate, "-3", "1"}, {"7", "-2", rational.Round, "-4", "-1"}, {"-7", "-2", rational.Floor, "3", "-1"}, {"-7", "-2", rational.Ceiling, "4", "1"}, {"-7", "-2", rational.Truncate, "3", "-1"},
		{"6", "2", rational.Floor, "3", "0"}, {"6", "2", rational.Ceiling, "3", "0"}, {"6", "2", rational.Truncate, "3", "0"}, {"6", "2", rational.Round, "3", "0"}, {"-6", "2", rational.Floor, "-3", "0"}, {"-6", "2", rational.Ceiling, "-3", "0"},
		{"0", "-3/7", rational.Floor, "0", "0"}, {"0", "3", rational.Ceiling, "0", "0"}, {"1/3", "1", rational.Round, "0", "1/3"}, {"2/3", "1", rational.Round, "1", "-1/3"}, {"-1/3", "1", rational.Round, "0", "-1/3"}, {"-2/3", "1", rational.Round, "-1", "1/3"}, {"7/3", "2/5", rational.Floor, "5", "1/3"},
	} {
		q, r, e := ratio(t, c.x).Quotient(c.way, ratio(t, c.y))
		if s, _ := q.Text(10); s != c.q || e != api.OK {
			t.Errorf("%s by %s, way %d: %s, %v", c.x, c.y, c.way, s, e)
		}
		same(t, "the remainder", r, bigRatio(t, c.r))
	}
}

func TestQuotientErrors(t *testing.T) {
	for _, c := range []struct {
		way  int
		y    string
		want api.Errno
	}{{4, "1", api.ErrArg}, {-1, "1", api.ErrArg}, {4, "0", api.ErrArg}, {-1, "0", api.ErrArg}, {math.MaxInt, "1", api.ErrArg}, {math.MinInt, "0", api.ErrArg}, {0, "0", api.ErrZero}, {1, "0", api.ErrZero}, {2, "0", api.ErrZero}, {3, "0", api.ErrZero}} {
		for _, x := range []string{"0", "5/2", "-3"} {
			q, r, e := ratio(t, x).Quotient(c.way, ratio(t, c.y))
			fails(t, "Quotient", r, e, c.want)
			if q.Sign() != 0 {
				t.Errorf("Quotient: an integer with an error")
			}
		}
	}
}

func TestQuotientOfMany(t *testing.T) {
	l := fractions(6, 250, 100)
	half := big.NewRat(1, 2)
	for i := range len(l) - 1 {
		a, b := l[i], l[i+1]
		if b.Sign() == 0 {
			continue
		}
		if i%3 == 0 { // so that a quotient lies in the middle of two integers
			a = new(big.Rat).Mul(b, new(big.Rat).Add(half, big.NewRat(int64(i-100), 1)))
		}
		x, y := of(a), of(b)
		for way := range 4 {
			q, r, e := x.Quotient(way, y)
			fails(t, "Quotient", r, e, api.OK)
			if y.Mul(rational.Of(q)).Add(r).Cmp(x) != 0 {
				t.Fatalf("%v is not %v by %v, and the remainder", a, b, whole(q))
			}
			checkRemainder(t, way, x, y, r)
		}
		down, _, _ := x.Quotient(rational.Floor, y)
		up, _, _ := x.Neg().Quotient(rational.Ceiling, y)
		if down.Add(up).Sign() != 0 {
			t.Errorf("Ceiling of %v by %v is not the opposite", a, b)
		}
		near, r, _ := x.Quotient(rational.Round, y)
		if r.Abs().Add(r.Abs()).Cmp(y.Abs()) == 0 && near.Odd() {
			t.Errorf("Round of %v by %v = %v", a, b, whole(near))
		}
		same(t, "the operand", x, a)
	}
}

// checkRemainder holds a remainder against the promise for its way.
func checkRemainder(t *testing.T, way int, x, y, r rational.Ratio) {
	t.Helper()
	ok := r.Abs().Cmp(y.Abs()) < 0
	switch way {
	case rational.Floor:
		ok = ok && (r.Sign() == 0 || r.Sign() == y.Sign())
	case rational.Ceiling:
		ok = ok && (r.Sign() == 0 || r.Sign() == -y.Sign())
	case rational.Truncate:
		ok = ok && (r.Sign() == 0 || r.Sign() == x.Sign())
	case rational.Round:
		ok = r.Abs().Add(r.Abs()).Cmp(y.Abs()) <= 0
	}
	if !ok {
		s, _ := r.Text(10)
		t.Fatalf("way %d: the remainder %s", way, s)
	}
}
