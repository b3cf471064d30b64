package number_test

import (
	"math"
	"math/big"
	"testing"

	"commonform/api"
	"commonform/number"
)

func TestWays(t *testing.T) {
	if number.Floor != 0 || number.Ceiling != 1 || number.Truncate != 2 || number.Round != 3 {
		t.Error("the numbers of the ways")
	}
}

func TestQuotient(t *testing.T) {
	for _, c := range []struct {
		way        int
		x, y, q, r string
	}{
		{number.Floor, "-3.5s", "2", "-2", "0.5s"}, {number.Ceiling, "-3.5s", "2", "-1", "-1.5s"}, {number.Truncate, "-3.5s", "2", "-1", "-1.5s"}, {number.Round, "-3.5s", "2", "-2", "0.5s"}, {number.Round, "5", "2", "2", "1"}, {number.Round, "7", "2", "4", "-1"}, {number.Floor, "7", "-2", "-4", "-1"}, {number.Floor, "-7/2", "2", "-2", "1/2"}, {number.Floor, "7/3", "2/5", "5", "1/3"}, {number.Floor, "6", "3", "2", "0"}, {number.Floor, "6", "3s", "2", "0s"}, {number.Floor, "6s", "3d", "2", "0d"}, {number.Floor, "-0.0s", "3", "0", "0s"}, {number.Floor, "1d", "0.1d", "9", "0.09999999999999995d"}, {number.Floor, "1", "0.1s", "9", "0.099999987s"}, {number.Truncate, "1e30s", "3", "333333338349155406625562951680", "0s"}, {number.Floor, "1/3", "1s", "0", "0.33333334s"}, {number.Ceiling, "1/3", "1s", "1", "-0.6666667s"}, {number.Floor, "16777217", "1s", "16777217", "0s"}, {number.Floor, "-1e-45s", "1e-45s", "-1", "0s"}, {number.Truncate, "-1/100000000000000000000000000000000000000000000000000", "1s", "0", "-0.0s"},
		{4, "1", "0", "!arg", "!arg"}, {-1, "1", "1", "!arg", "!arg"}, {math.MinInt, "1", "0", "!arg", "!arg"}, {0, "1", "0", "!zero", "!zero"}, {1, "1", "0s", "!zero", "!zero"}, {2, "1s", "-0.0d", "!zero", "!zero"}, {3, "0", "0", "!zero", "!zero"}, {0, "(0 1)", "0", "!type", "!type"}, {9, "1", "(0 1)", "!type", "!type"}, {9, "(0 1)", "(0 1)", "!type", "!type"}, {0, "1", "(1s 0s)", "!type", "!type"},
		{0, "1e40", "1s", "!over", "!over"}, {0, "1s", "1e40", "!over", "!over"}, {0, "1e400", "2d", "!over", "!over"}, {0, "1e40", "0s", "!zero", "!zero"}, {9, "1e40", "1s", "!arg", "!arg"}, {0, "1e40", "1d", "10000000000000000000000000000000000000000", "0d"}, {0, "1s", "1/100000000000000000000000000000000000000000000000000", "100000000000000000000000000000000000000000000000000", "0s"},
	} {
		q, r, e := number.Quotient(c.way, num(t, c.x), num(t, c.y))
		expect(t, c.x+" by "+c.y, q, e, c.q)
		expect(t, c.x+" by "+c.y+", the remainder", r, e, c.r)
	}
	l := exacts(t, 5, 200)
	for i := range len(l) - 1 {
		x, y := l[i], l[i+1]
		if !isRational(x) || !isRational(y) || y.Text == "0" {
			continue
		}
		for way := range 4 {
			checkQuotient(t, way, x, y)
		}
	}
}

// checkQuotient holds the quotient of rational numbers against the promise, and against the nearest integers.
func checkQuotient(t *testing.T, way int, x, y api.Form) {
	t.Helper()
	q, r, e := number.Quotient(way, x, y)
	product, _ := number.Mul(y, q)
	sum, _ := number.Add(product, r)
	if e != api.OK || !equal(sum, x) || q.Kind != api.FormInt || !isRational(r) {
		t.Errorf("Quotient of %v and %v, way %d: %v, %v, %v", x, y, way, q, r, e)
	}
	exact := new(big.Rat).Quo(valueOf(x), valueOf(y))
	away := new(big.Rat).Sub(exact, valueOf(q))
	one, half := big.NewRat(1, 1), big.NewRat(1, 2)
	ok := map[int]bool{
		number.Floor:    away.Sign() >= 0 && away.Cmp(one) < 0,
		number.Ceiling:  away.Sign() <= 0 && new(big.Rat).Neg(away).Cmp(one) < 0,
		number.Truncate: away.Sign()*exact.Sign() >= 0 && new(big.Rat).Abs(away).Cmp(one) < 0,
		number.Round:    new(big.Rat).Abs(away).Cmp(half) <= 0,
	}
	if !ok[way] {
		t.Errorf("Quotient of %v and %v, way %d: %v", x, y, way, q)
	}
}

func TestComplexAndParts(t *testing.T) {
	for _, c := range []struct{ re, im, want string }{
		{"1", "2", "(1 2)"}, {"1", "0", "1"}, {"1/2", "0", "1/2"}, {"1", "2s", "(1s 2s)"}, {"1s", "0", "(1s 0s)"}, {"1s", "2d", "(1d 2d)"}, {"1", "0s", "(1s 0s)"}, {"0", "-0.0d", "(0d -0.0d)"}, {"-0.0s", "0d", "(-0.0d 0d)"}, {"0", "1/3", "(0 1/3)"}, {"(0 1)", "1", "!type"}, {"1", "(0 1)", "!type"}, {"(0 1)", "(0 1)", "!type"}, {"1e40", "1s", "!over"}, {"1s", "1e40", "!over"}, {"1e40", "1d", "(1e40d 1d)"}, {"1e400", "1d", "!over"}, {"1e40", "1", "(1e40 1)"},
	} {
		got, e := number.Complex(num(t, c.re), num(t, c.im))
		expect(t, "Complex of "+c.re+" and "+c.im, got, e, c.want)
	}
	for _, c := range []struct{ x, re, im, conjugate string }{
		{"5", "5", "0", "5"}, {"-1/2", "-1/2", "0", "-1/2"}, {"2.5s", "2.5s", "0s", "2.5s"}, {"-0.0s", "-0.0s", "0s", "-0.0s"}, {"-2.5d", "-2.5d", "0d", "-2.5d"}, {"(1/2 3)", "1/2", "3", "(1/2 -3)"}, {"(1s 2s)", "1s", "2s", "(1s -2s)"}, {"(1d 0d)", "1d", "0d", "(1d -0.0d)"}, {"(0 -1)", "0", "-1", "(0 1)"}, {"(1s -0.0s)", "1s", "-0.0s", "(1s 0s)"},
	} {
		x := num(t, c.x)
		got, e := number.Real(x)
		expect(t, "Real of "+c.x, got, e, c.re)
		got, e = number.Imaginary(x)
		expect(t, "Imaginary of "+c.x, got, e, c.im)
		got, e = number.Conjugate(x)
		expect(t, "Conjugate of "+c.x, got, e, c.conjugate)
	}
}

func TestNumeratorAndDenominator(t *testing.T) {
	for _, c := range []struct{ x, top, bottom string }{{"-3/2", "-3", "2"}, {"5", "5", "1"}, {"0", "0", "1"}, {"-5", "-5", "1"}, {"1/3", "1", "3"}, {"1.5s", "!type", "!type"}, {"1d", "!type", "!type"}, {"(1 2)", "!type", "!type"}, {"(1s 2s)", "!type", "!type"}} {
		got, e := number.Numerator(num(t, c.x))
		expect(t, "Numerator of "+c.x, got, e, c.top)
		got, e = number.Denominator(num(t, c.x))
		expect(t, "Denominator of "+c.x, got, e, c.bottom)
	}
}

func TestChangesOfKind(t *testing.T) {
	for _, c := range []struct{ x, single, double string }{
		{"1/4", "0.25s", "0.25d"}, {"1", "1s", "1d"}, {"0", "0s", "0d"}, {"1/3", "0.33333334s", "0.3333333333333333d"}, {"0.1s", "0.1s", "0.10000000149011612d"}, {"0.1d", "0.1s", "0.1d"}, {"-0.0s", "-0.0s", "-0.0d"}, {"-0.0d", "-0.0s", "-0.0d"}, {"1e40", "!over", "1e40d"}, {"1e40d", "!over", "1e40d"}, {"1e400", "!over", "!over"}, {"1e-60d", "0s", "1e-60d"}, {"-1e-60d", "-0.0s", "-1e-60d"}, {"16777217", "16777216s", "16777217d"},
		{"(1 1/2)", "(1s 0.5s)", "(1d 0.5d)"}, {"(1s 2s)", "(1s 2s)", "(1d 2d)"}, {"(1d -0.0d)", "(1s -0.0s)", "(1d -0.0d)"}, {"(1 1e40)", "!over", "(1d 1e40d)"}, {"(1e40 1)", "!over", "(1e40d 1d)"}, {"(1 1/100000000000000000000000000000000000000000000000000)", "(1s 0s)", "(1d 1e-50d)"},
	} {
		got, e := number.Float(num(t, c.x), api.FormSingle)
		expect(t, "Float of "+c.x, got, e, c.single)
		got, e = number.Float(num(t, c.x), api.FormDouble)
		expect(t, "Float of "+c.x, got, e, c.double)
	}
	for _, kind := range []int{0, api.FormInt, api.FormRatio, api.FormComplex, api.FormSymbol, -1, 99, math.MaxInt, math.MinInt} {
		for _, x := range []string{"1", "1e400", "0.5s", "(1 2)", "(1 1e40)"} {
			got, e := number.Float(num(t, x), kind)
			fails(t, "Float to another kind", got, e, api.ErrArg)
		}
	}
}

func TestRationalAndRationalize(t *testing.T) {
	third := api.Form{Kind: api.FormSingle, Text: "3eaaaaab"}
	got, e := number.Rational(third)
	expect(t, "Rational of 3eaaaaab", got, e, "11184811/33554432")
	got, e = number.Rationalize(third)
	expect(t, "Rationalize of 3eaaaaab", got, e, "1/3")
	for _, c := range []struct{ x, rational, rationalize string }{
		{"5", "5", "5"}, {"-3/4", "-3/4", "-3/4"}, {"0s", "0", "0"}, {"-0.0s", "0", "0"}, {"-0.0d", "0", "0"}, {"0.5s", "1/2", "1/2"}, {"-2.5d", "-5/2", "-5/2"}, {"0.1s", "13421773/134217728", "1/10"}, {"0.1d", "3602879701896397/36028797018963968", "1/10"}, {"-0.1d", "-3602879701896397/36028797018963968", "-1/10"}, {"1s", "1", "1"}, {"16777216s", "16777216", "16777216"}, {"16777218s", "16777218", "16777218"}, {"16777220s", "16777220", "16777219"}, {"-16777220s", "-16777220", "-16777219"}, {"16777222s", "16777222", "16777222"}, {"33554436s", "33554436", "33554435"}, {"33554440s", "33554440", "33554438"}, {"-33554436s", "-33554436", "-33554435"}, {"3.1415927s", "13176795/4194304", "93343/29712"}, {"1e10s", "10000000000", "9999999489"},
		{"(0 1)", "!type", "!type"}, {"(1s 0s)", "!type", "!type"},
	} {
		got, e := number.Rational(num(t, c.x))
		expect(t, "Rational of "+c.x, got, e, c.rational)
		got, e = number.Rationalize(num(t, c.x))
		expect(t, "Rationalize of "+c.x, got, e, c.rationalize)
	}
}

// Rationalize of a float is read as it; no simpler fraction is.
func TestRationalizeIsSimplest(t *testing.T) {
	l := reals(t, 6, 300)
	for _, bits := range []uint32{1, 2, 3, 5, 1<<23 - 1, 1 << 23, 1<<23 + 1, 0x7f7fffff, 0x7f7ffffe, 0xff7fffff, 0x7f000000, 0x4b800001, 0x4b800000, 0x4b7fffff, 0x3f800000, 0x3f7fffff, 0x4c000000, 0x4c000001} {
		l = append(l, singleOf(math.Float32frombits(bits)))
	}
	for _, bits := range []uint64{1, 2, 3, 1<<52 - 1, 1 << 52, 1<<52 + 1, 0x7fefffffffffffff, 0xffefffffffffffff, 0x7feffffffffffffe, 0x4340000000000000, 0x4340000000000001, 0x433fffffffffffff, 0x3ff0000000000000} {
		l = append(l, doubleOf(math.Float64frombits(bits)))
	}
	for _, x := range l {
		if isRational(x) || valueOf(x).Sign() == 0 {
			continue
		}
		got, e := number.Rationalize(x)
		if e != api.OK || number.Check(got) != api.OK || !isRational(got) {
			t.Errorf("Rationalize of %v: %v, %v", x, got, e)
			continue
		}
		back, e := number.Float(got, x.Kind)
		is(t, "Float of Rationalize", back, e, x)
		whole, _ := number.Rational(x)
		back, e = number.Float(whole, x.Kind)
		is(t, "Float of Rational", back, e, x)
		checkSimplest(t, x, valueOf(got))
	}
}

// checkSimplest tries fractions with a less denominator, or with a less numerator, next to the float: none may be read as it.
func checkSimplest(t *testing.T, x api.Form, got *big.Rat) {
	t.Helper()
	var simpler []*big.Rat
	for d := int64(1); d <= 60; d++ {
		near := new(big.Rat).Mul(valueOf(x), big.NewRat(d, 1))
		n := new(big.Int).Quo(near.Num(), near.Denom())
		for step := int64(-1); step <= 1; step++ {
			simpler = append(simpler, new(big.Rat).SetFrac(new(big.Int).Add(n, big.NewInt(step)), big.NewInt(d)))
		}
	}
	toZero := big.NewInt(int64(-got.Sign()))
	simpler = append(simpler, new(big.Rat).SetFrac(new(big.Int).Add(got.Num(), toZero), got.Denom()))
	for _, z := range simpler {
		c := z.Denom().Cmp(got.Denom())
		if c > 0 || c == 0 && z.Num().CmpAbs(got.Num()) >= 0 {
			continue
		}
		if back, e := number.Float(exactOf(z), x.Kind); e == api.OK && equal(back, x) {
			t.Errorf("Rationalize of %v: %v, but %v is simpler", x, got, z)
		}
	}
}
