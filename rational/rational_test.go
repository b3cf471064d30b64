package rational_test

import (
	"math"
	"math/big"
	"testing"

	"commonform/api"
	"commonform/integer"
	"commonform/rational"
)

func TestNew(t *testing.T) {
	for _, c := range []struct {
		n, d int64
		want string
	}{{6, -4, "-3/2"}, {-6, -4, "3/2"}, {6, 4, "3/2"}, {0, 5, "0"}, {0, -5, "0"}, {8, 2, "4"}, {-8, 2, "-4"}, {8, -8, "-1"}, {1, 3, "1/3"}, {math.MinInt64, math.MinInt64, "1"}, {7, 1, "7"}} {
		x, e := rational.New(integer.New(c.n), integer.New(c.d))
		fails(t, "New", x, e, api.OK)
		same(t, "New", x, bigRatio(t, c.want))
	}
	for _, n := range []int64{0, 1, -3} {
		x, e := rational.New(integer.New(n), integer.Int{})
		fails(t, "n/0", x, e, api.ErrZero)
	}
	for _, n := range []int64{0, 1, -3, math.MinInt64} {
		same(t, "Of", rational.Of(integer.New(n)), big.NewRat(n, 1))
	}
}

func TestZeroValue(t *testing.T) {
	var zero rational.Ratio
	same(t, "the zero value", zero, new(big.Rat))
	same(t, "0 + 2/3", zero.Add(ratio(t, "2/3")), big.NewRat(2, 3))
	same(t, "0 - 2", zero.Sub(ratio(t, "2")), big.NewRat(-2, 1))
	same(t, "0 by 2/3", zero.Mul(ratio(t, "2/3")), new(big.Rat))
	same(t, "2/3 - 2/3", ratio(t, "2/3").Sub(ratio(t, "2/3")), new(big.Rat))
	same(t, "-0", zero.Neg(), new(big.Rat))
	if zero.Cmp(rational.Of(integer.Int{})) != 0 || zero.Cmp(ratio(t, "1/9")) != -1 || zero.Cmp(ratio(t, "-1/9")) != 1 {
		t.Error("Cmp of the zero value")
	}
	x, e := zero.Div(ratio(t, "5"))
	fails(t, "0/5", x, e, api.OK)
	same(t, "0/5", x, new(big.Rat))
}

func TestArithmetic(t *testing.T) {
	l := fractions(1, 120, 200)
	for i, a := range l {
		x := of(a)
		same(t, "Neg", x.Neg(), new(big.Rat).Neg(a))
		same(t, "Abs", x.Abs(), new(big.Rat).Abs(a))
		for _, b := range l[max(0, i-25) : i+1] {
			y := of(b)
			same(t, "Add", x.Add(y), new(big.Rat).Add(a, b))
			same(t, "Sub", x.Sub(y), new(big.Rat).Sub(a, b))
			same(t, "Mul", x.Mul(y), new(big.Rat).Mul(a, b))
			if got := x.Cmp(y); got != a.Cmp(b) {
				t.Errorf("Cmp of %v and %v = %d", a, b, got)
			}
			z, e := x.Div(y)
			if b.Sign() == 0 {
				fails(t, "Div by 0", z, e, api.ErrZero)
				continue
			}
			fails(t, "Div", z, e, api.OK)
			same(t, "Div", z, new(big.Rat).Quo(a, b))
			same(t, "the right operand", y, b)
		}
		same(t, "the left operand", x, a)
	}
}

func TestField(t *testing.T) {
	l := fractions(2, 60, 90)
	for i := range len(l) - 2 {
		x, y, z := of(l[i]), of(l[i+1]), of(l[i+2])
		for what, equal := range map[string][2]rational.Ratio{
			"Add is commutative":  {x.Add(y), y.Add(x)},
			"Mul is commutative":  {x.Mul(y), y.Mul(x)},
			"Add is associative":  {x.Add(y).Add(z), x.Add(y.Add(z))},
			"Mul is associative":  {x.Mul(y).Mul(z), x.Mul(y.Mul(z))},
			"Mul is distributive": {x.Mul(y.Add(z)), x.Mul(y).Add(x.Mul(z))},
			"Sub undoes Add":      {x.Add(y).Sub(y), x},
		} {
			if equal[0].Cmp(equal[1]) != 0 {
				t.Errorf("%s: not for %v, %v, %v", what, l[i], l[i+1], l[i+2])
			}
			s, _ := equal[0].Text(10)
			if r, _ := equal[1].Text(10); r != s || whole(equal[0].Numerator()).Cmp(whole(equal[1].Numerator())) != 0 || whole(equal[0].Denominator()).Cmp(whole(equal[1].Denominator())) != 0 {
				t.Errorf("%s: equal fractions with different parts: %s, %s", what, r, s)
			}
		}
		if y.Sign() != 0 {
			if q, e := x.Mul(y).Div(y); e != api.OK || q.Cmp(x) != 0 {
				t.Errorf("Div does not undo Mul for %v, %v", l[i], l[i+1])
			}
		}
		if x.Cmp(y) != x.Add(z).Cmp(y.Add(z)) || x.Cmp(y) != x.Sub(y).Sign() {
			t.Errorf("Cmp and sums: %v, %v, %v", l[i], l[i+1], l[i+2])
		}
		if z.Sign() > 0 && x.Cmp(y) != x.Mul(z).Cmp(y.Mul(z)) {
			t.Errorf("Cmp and products: %v, %v, %v", l[i], l[i+1], l[i+2])
		}
	}
}

// twoTo returns 2 to the power of n, plus some more, by the library.
func twoTo(n uint, more int64) *big.Int {
	z := new(big.Int).Lsh(big.NewInt(1), n)
	return z.Add(z, big.NewInt(more))
}

func TestPower(t *testing.T) {
	for _, c := range []struct {
		x    string
		n    int
		want string
	}{{"2/3", -3, "27/8"}, {"2/3", 3, "8/27"}, {"-2/3", 3, "-8/27"}, {"-2/3", -3, "-27/8"}, {"-2/3", -2, "9/4"}, {"-2/3", 2, "4/9"}, {"0", 0, "1"}, {"5/7", 0, "1"}, {"0", 5, "0"}, {"5", -1, "1/5"}, {"-5", -1, "-1/5"}, {"-1/5", -1, "-5"}, {"1/5", 1, "1/5"}, {"1", math.MinInt, "1"}, {"-1", math.MinInt, "1"}, {"-1", math.MinInt + 1, "-1"}, {"-1", math.MaxInt, "-1"}, {"1", math.MaxInt, "1"}} {
		x, e := ratio(t, c.x).Power(c.n)
		fails(t, "Power", x, e, api.OK)
		same(t, "Power of "+c.x, x, bigRatio(t, c.want))
	}
	great := new(big.Rat).SetInt(twoTo(65535, 0))
	for _, c := range []struct {
		x    *big.Rat
		n    int
		want api.Errno
	}{
		{big.NewRat(0, 1), -1, api.ErrZero}, {big.NewRat(0, 1), math.MinInt, api.ErrZero},
		{big.NewRat(2, 1), api.MaxBits, api.ErrLarge}, {big.NewRat(1, 2), api.MaxBits, api.ErrLarge}, {big.NewRat(2, 1), -api.MaxBits, api.ErrLarge}, {big.NewRat(2, 3), math.MaxInt, api.ErrLarge}, {big.NewRat(2, 3), math.MinInt, api.ErrLarge}, {big.NewRat(-1, 3), math.MinInt, api.ErrLarge},
		{big.NewRat(2, 1), api.MaxBits - 1, api.OK}, {big.NewRat(1, 2), api.MaxBits - 1, api.OK}, {big.NewRat(2, 1), -(api.MaxBits - 1), api.OK}, {big.NewRat(1, 2), -(api.MaxBits - 1), api.OK}, {big.NewRat(1, 2), -api.MaxBits, api.ErrLarge}, {big.NewRat(3, 2), api.MaxBits - 1, api.ErrLarge},
		{new(big.Rat).SetInt(twoTo(65536, 0)), 1, api.ErrLarge}, {new(big.Rat).Neg(new(big.Rat).SetInt(twoTo(65536, 0))), 1, api.OK}, {new(big.Rat).SetFrac(big.NewInt(-1), twoTo(65536, 0)), -1, api.OK}, {new(big.Rat).SetFrac(big.NewInt(-1), twoTo(65536, 0)), 1, api.ErrLarge}, {great, 1, api.OK}, {great, -1, api.OK}, {great, 2, api.ErrLarge},
	} {
		x, e := of(c.x).Power(c.n)
		fails(t, "Power", x, e, c.want)
		if c.want == api.OK && c.n == 1 {
			same(t, "Power", x, c.x)
		}
	}
}

func TestPowerOfSums(t *testing.T) {
	for _, a := range fractions(3, 40, 60) {
		x := of(a)
		for m := -3; m <= 3; m++ {
			for n := -3; n <= 3 && x.Sign() != 0; n++ {
				p, _ := x.Power(m)
				q, _ := x.Power(n)
				both, e := x.Power(m + n)
				if e != api.OK || both.Cmp(p.Mul(q)) != 0 {
					t.Errorf("Power of %v and %d + %d: %v", a, m, n, e)
				}
				for range n {
					q, _ = q.Div(x)
				}
				if n > 0 {
					same(t, "Power, divided", q, big.NewRat(1, 1))
				}
			}
		}
	}
}

func TestRoot(t *testing.T) {
	for x, want := range map[string]string{"9/4": "3/2", "0": "0", "1": "1", "1/4": "1/2", "144": "12", "100/49": "10/7"} {
		r, e := ratio(t, x).Root()
		fails(t, "Root of "+x, r, e, api.OK)
		same(t, "Root of "+x, r, bigRatio(t, want))
	}
	for x, want := range map[string]api.Errno{"2": api.ErrNone, "4/3": api.ErrNone, "3/4": api.ErrNone, "2/9": api.ErrNone, "9/2": api.ErrNone, "8": api.ErrNone, "1/2": api.ErrNone, "-4": api.ErrArg, "-2": api.ErrArg, "-1/4": api.ErrArg, "-1/3": api.ErrArg} {
		r, e := ratio(t, x).Root()
		fails(t, "Root of "+x, r, e, want)
	}
	for _, a := range fractions(4, 100, 150) {
		x := of(a)
		r, e := x.Mul(x).Root()
		fails(t, "Root", r, e, api.OK)
		same(t, "Root of a square", r, new(big.Rat).Abs(a))
		if r.Sign() > 0 {
			r, e = x.Mul(x).Mul(ratio(t, "2")).Root()
			fails(t, "Root of a square times 2", r, e, api.ErrNone)
		}
	}
}

func TestTextAndParse(t *testing.T) {
	for _, c := range []struct {
		x     string
		radix int
		want  string
	}{{"-255/16", 16, "-FF/10"}, {"0", 10, "0"}, {"3/2", 10, "3/2"}, {"-7", 10, "-7"}, {"5/3", 2, "101/11"}, {"35/36", 36, "Z/10"}} {
		s, e := ratio(t, c.x).Text(c.radix)
		if s != c.want || e != api.OK {
			t.Errorf("Text of %s = %q, %v", c.x, s, e)
		}
	}
	for _, radix := range []int{1, 0, -1, 37, math.MaxInt, math.MinInt} {
		for _, x := range []string{"1/2", "3", "0"} {
			if s, e := ratio(t, x).Text(radix); s != "" || e != api.ErrArg {
				t.Errorf("Text in the radix %d = %q, %v", radix, s, e)
			}
		}
	}
	for _, a := range fractions(5, 60, 200) {
		for radix := 2; radix <= 36; radix++ {
			s, e := of(a).Text(radix)
			if e != api.OK {
				t.Errorf("Text of %v: %v", a, e)
			}
			x, e := rational.Parse(s, radix)
			fails(t, "Parse of Text", x, e, api.OK)
			same(t, "Parse of Text", x, a)
		}
	}
}
