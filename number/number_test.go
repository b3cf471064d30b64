package number_test

import (
	"math"
	"math/big"
	"strings"
	"testing"

	"commonform/api"
	"commonform/number"
)

func TestCheck(t *testing.T) {
	for _, x := range wrong() {
		if e := number.Check(x.f); e != x.want {
			t.Errorf("Check of %v: %v, expected %v", short(x.f), e, x.want)
		}
	}
	for _, x := range append(samples(t, 1, 200), ofBytes(api.MaxDigits), api.Form{Kind: api.FormRatio, Text: "1/" + ofBytes(api.MaxDigits-2).Text}, api.Form{Kind: api.FormInt, Text: "0", Kids: []api.Form{}}, num(t, "(0s 0s)"), num(t, "(0d -0.0d)")) {
		if e := number.Check(x); e != api.OK {
			t.Errorf("Check of %v: %v", short(x), e)
		}
	}
}

// Every function returns the error of a wrong number, in the order of the arguments and ahead of all others, and zero values with it.
func TestErrorsOfNumbers(t *testing.T) {
	one := num(t, "1")
	type two = func(x, y api.Form) (api.Form, api.Errno)
	type single = func(x api.Form) (api.Form, api.Errno)
	unaries := map[string]single{"Neg": number.Neg, "Root": number.Root, "Abs": number.Abs, "Signum": number.Signum, "Real": number.Real, "Imaginary": number.Imaginary, "Conjugate": number.Conjugate, "Numerator": number.Numerator, "Denominator": number.Denominator, "Rational": number.Rational, "Rationalize": number.Rationalize,
		"Power":      func(x api.Form) (api.Form, api.Errno) { return number.Power(x, 2) },
		"Power 0":    func(x api.Form) (api.Form, api.Errno) { return number.Power(x, 0) },
		"Power 5000": func(x api.Form) (api.Form, api.Errno) { return number.Power(x, 5000) },
		"Float":      func(x api.Form) (api.Form, api.Errno) { return number.Float(x, api.FormSingle) },
		"Float 0":    func(x api.Form) (api.Form, api.Errno) { return number.Float(x, 0) },
		"Greatest":   func(x api.Form) (api.Form, api.Errno) { return number.Greatest([]api.Form{one, x}) },
		"Gcd":        func(x api.Form) (api.Form, api.Errno) { return number.Gcd([]api.Form{one, x}) },
		"Lcm":        func(x api.Form) (api.Form, api.Errno) { return number.Lcm([]api.Form{num(t, "0"), x}) },
		"Shift":      func(x api.Form) (api.Form, api.Errno) { return number.Shift(x, math.MaxInt) },
		"Print": func(x api.Form) (api.Form, api.Errno) {
			s, e := number.Print(x, 10, true, true)
			return api.Form{Text: s}, e
		},
		"Print 1": func(x api.Form) (api.Form, api.Errno) {
			s, e := number.Print(x, 1, true, true)
			return api.Form{Text: s}, e
		},
	}
	binaries := map[string]two{"Add": number.Add, "Sub": number.Sub, "Mul": number.Mul, "Div": number.Div, "Complex": number.Complex,
		"Equals": func(x, y api.Form) (api.Form, api.Errno) { return flag(number.Equals(x, y)) },
		"Eql":    func(x, y api.Form) (api.Form, api.Errno) { return flag(number.Eql(x, y)) },
		"Cmp":    func(x, y api.Form) (api.Form, api.Errno) { n, e := number.Cmp(x, y); return api.Form{Kind: n}, e },
		"Quotient": func(x, y api.Form) (api.Form, api.Errno) {
			q, r, e := number.Quotient(0, x, y)
			return api.Form{Kids: append(q.Kids, r.Kids...), Text: q.Text + r.Text, Kind: q.Kind + r.Kind}, e
		},
		"Quotient9": func(x, y api.Form) (api.Form, api.Errno) { q, _, e := number.Quotient(9, x, y); return q, e },
		"Boole":     func(x, y api.Form) (api.Form, api.Errno) { return number.Boole(8, x, y) },
		"Boole 16":  func(x, y api.Form) (api.Form, api.Errno) { return number.Boole(16, x, y) },
	}
	complexOne := num(t, "(1 1)")
	for _, x := range wrong() {
		for what, f := range unaries {
			got, e := f(x.f)
			fails(t, what, got, e, x.want)
		}
		for what, f := range binaries {
			got, e := f(x.f, one)
			fails(t, what, got, e, x.want)
			got, e = f(one, x.f)
			fails(t, what+", the second one", got, e, x.want)
			got, e = f(complexOne, x.f)
			fails(t, what+", behind a complex number", got, e, x.want)
			for _, y := range wrong()[:20] {
				got, e = f(x.f, y.f)
				fails(t, what+", both", got, e, x.want)
			}
		}
	}
}

func flag(is bool, e api.Errno) (api.Form, api.Errno) {
	if is {
		return num(nil, "1"), e
	}
	return api.Form{}, e
}

func TestSumsAndDifferences(t *testing.T) {
	for _, c := range []struct{ x, y, sum, difference string }{
		{"1/2", "1/2", "1", "0"}, {"1/2", "1s", "1.5s", "-0.5s"}, {"1s", "1d", "2d", "0d"}, {"1", "1d", "2d", "0d"}, {"1/3", "1s", "1.3333334s", "-0.6666666567325592s"}, {"2", "3", "5", "-1"}, {"1/3", "-1/3", "0", "2/3"}, {"0s", "-0.0s", "0s", "0s"}, {"-0.0s", "-0.0s", "-0.0s", "0s"}, {"-0.0s", "0", "0s", "-0.0s"}, {"-0.0s", "-0.0d", "-0.0d", "0d"}, {"0", "-0.0s", "0s", "0s"},
		{"1e30", "1s", "1e30s", "1e30s"}, {"1e40", "1s", "!over", "!over"}, {"1s", "1e40", "!over", "!over"}, {"3e38s", "3e38s", "!over", "0s"}, {"3e38s", "-3e38s", "0s", "!over"}, {"1e10s", "1e10d", "2e10d", "0d"}, {"16777217", "0s", "16777216s", "16777216s"}, {"1e400", "1d", "!over", "!over"}, {"0.1s", "0d", "0.10000000149011612d", "0.10000000149011612d"},
		{"(1 2)", "(3 4)", "(4 6)", "(-2 -2)"}, {"(1 2)", "(1 -2)", "2", "(0 4)"}, {"(1 2)", "(1 2)", "(2 4)", "0"}, {"(1 2)", "5", "(6 2)", "(-4 2)"}, {"5", "(1 2)", "(6 2)", "(4 -2)"}, {"(1 2)", "1s", "(2s 2s)", "(0s 2s)"}, {"(1s 2s)", "1", "(2s 2s)", "(0s 2s)"}, {"(1s 2s)", "(1d 2d)", "(2d 4d)", "(0d 0d)"}, {"(1s 2s)", "(1s -2s)", "(2s 0s)", "(0s 4s)"}, {"(1/2 1/3)", "(1/2 2/3)", "(1 1)", "(0 -1/3)"}, {"(1s -0.0s)", "1s", "(2s 0s)", "(0s -0.0s)"}, {"(1 1e40)", "1s", "!over", "!over"}, {"(1s 1s)", "(1 1e40)", "!over", "!over"}, {"(3e38s 1s)", "(3e38s 1s)", "!over", "(0s 0s)"}, {"(1s 3e38s)", "(1s 3e38s)", "!over", "(0s 0s)"}, {"0", "(1s -0.0s)", "(1s 0s)", "(-1s 0s)"},
	} {
		x, y := num(t, c.x), num(t, c.y)
		got, e := number.Add(x, y)
		expect(t, c.x+" + "+c.y, got, e, c.sum)
		got, e = number.Sub(x, y)
		expect(t, c.x+" - "+c.y, got, e, c.difference)
		if !equal(x, num(t, c.x)) || !equal(y, num(t, c.y)) {
			t.Errorf("an argument was changed: %v, %v", x, y)
		}
	}
}

func TestProductsAndQuotients(t *testing.T) {
	for _, c := range []struct{ x, y, product, quotient string }{
		{"2/3", "3/2", "1", "4/9"}, {"1/2", "3s", "1.5s", "0.16666667s"}, {"3", "2d", "6d", "1.5d"}, {"6", "3", "18", "2"}, {"6", "4", "24", "3/2"}, {"0", "5", "0", "0"}, {"-6", "-4", "24", "3/2"}, {"1/2", "0", "0", "!zero"}, {"0", "0", "0", "!zero"}, {"1/2", "0s", "0s", "!zero"}, {"1s", "0", "0s", "!zero"}, {"1s", "-0.0s", "-0.0s", "!zero"}, {"0s", "-1", "-0.0s", "-0.0s"}, {"-0.0d", "2s", "-0.0d", "-0.0d"}, {"1e30s", "1e30s", "!over", "1s"}, {"1e40", "0s", "!over", "!over"}, {"1e40", "2s", "!over", "!over"}, {"2s", "1e40", "!over", "!over"}, {"1e30s", "1e-30s", "1s", "!over"}, {"1s", "1e-60", "0s", "!zero"}, {"1d", "1s", "1d", "1d"},
		{"(1 1)", "(1 -1)", "2", "(0 1)"}, {"1", "(0 1)", "(0 1)", "(0 -1)"}, {"(0 1)", "(0 1)", "-1", "1"}, {"(1 2)", "(3 4)", "(-5 10)", "(11/25 2/25)"}, {"(1 2)", "2", "(2 4)", "(1/2 1)"}, {"2", "(1 2)", "(2 4)", "(2/5 -4/5)"}, {"(1 2)", "0", "0", "!zero"}, {"(1 2)", "0s", "(0s 0s)", "!zero"}, {"(1 2)", "2s", "(2s 4s)", "(0.5s 1s)"}, {"(1s 2s)", "2", "(2s 4s)", "(0.5s 1s)"}, {"(1s 2s)", "(3d 4d)", "(-5d 10d)", "(0.44d 0.08d)"}, {"(1s 2s)", "(3 4)", "(-5s 10s)", "(0.44s 0.08s)"},
		{"(1s 1s)", "(1e-30s 0s)", "(1e-30s 1e-30s)", "!zero"}, {"(1s 1s)", "(1e30s 0s)", "(1e30s 1e30s)", "!over"}, {"(1e30s 0s)", "(1e30s 0s)", "!over", "!over"}, {"(1e30s 0s)", "(0s 1e30s)", "!over", "!over"}, {"(1e20s 1s)", "(1e-30s 1s)", "(-1s 1e20s)", "(1s -1e20s)"}, {"1e40", "(1s 1s)", "!over", "!over"}, {"(1 1e40)", "1s", "!over", "!over"}, {"(1 1e40)", "1/2", "(1/2 5e39)", "(2 2e40)"}, {"(1 1)", "(1s 0s)", "(1s 1s)", "(1s 1s)"},
		{"-1s", "(0s 1s)", "(-0.0s -1s)", "(0s 1s)"}, {"(0s 1s)", "-1s", "(-0.0s -1s)", "(0s -1s)"}, {"(-0.0s 1s)", "2", "(-0.0s 2s)", "(0s 0.5s)"},
	} {
		x, y := num(t, c.x), num(t, c.y)
		got, e := number.Mul(x, y)
		expect(t, c.x+" by "+c.y, got, e, c.product)
		got, e = number.Div(x, y)
		expect(t, c.x+" over "+c.y, got, e, c.quotient)
		if !equal(x, num(t, c.x)) || !equal(y, num(t, c.y)) {
			t.Errorf("an argument was changed: %v, %v", x, y)
		}
	}
}

// The first error of a quotient is that of the first step that has one.
func TestOrderOfSteps(t *testing.T) {
	for _, c := range []struct{ x, y, want string }{
		{"(1e38s 1s)", "(1e-25s 0s)", "!zero"},                 // c c is rounded to 0, a c is not too great
		{"(3e38s 3e38s)", "(1e-30s 1e-30s)", "!zero"},          // a division by 0 behind sums that fit
		{"(3e38s 1s)", "(1e-22s 0s)", "!over"},                 // n fits and is not 0, and the quotient is too great
		{"(1e30s 1e30s)", "(1e20s 0s)", "!over"},               // c c is too great
		{"(3e38d 1d)", "(0d 0d)", "!zero"},                     // both parts 0
		{"(3e38s 3e38s)", "(1s 1s)", "!over"},                  // the sum of a c and b d
		{"(1s 1s)", "(0s 0s)", "!zero"},                        // n is 0
		{"(1e30s 1e30s)", "(1e-40s 1e-40s)", "!zero"},          // n is rounded to 0
		{"(1e40 1)", "(0s 1s)", "!over"},                       // a is taken as a FormSingle ahead of n = 1
		{"(1e40 1)", "(0s 0s)", "!over"},                       // and ahead of the quotient by 0
		{"(1 1e40)", "(0s 0s)", "!over"},                       // likewise b
		{"(1e300d 1d)", "(1e-160d 1e-160d)", "!over"},          // n is below the normal ones
		{"(1e30s 1e30s)", "(1e10s 1e10s)", "!over"},            // a c is too great
		{"1e40", "(0s 0s)", "!over"},                           // of a real number, too
		{"1", "(0s 0s)", "!zero"},                              // a real number over 0
		{"(1 1)", "0", "!zero"},                                // over the integer 0
		{"(3e38s -3e38s)", "(1e-10s 0.5s)", "!over"},           // b c - a d fits, the quotient does not
		{"(1e38s 1e38s)", "(1e-10s 1e-10s)", "!over"},          // a quotient that is too great
		{"(1e19s 1e19s)", "(1e19s 1e19s)", "(1s 0s)"},          // all steps fit
		{"(1e-23s 1e-23s)", "(1e-23s 1s)", "(1e-23s -1e-23s)"}, // products rounded to 0
	} {
		got, e := number.Div(num(t, c.x), num(t, c.y))
		expect(t, c.x+" over "+c.y, got, e, c.want)
	}
}

func TestNegAbsSignum(t *testing.T) {
	for _, c := range []struct{ x, neg, abs, signum string }{
		{"5", "-5", "5", "1"}, {"-5", "5", "5", "-1"}, {"0", "0", "0", "0"}, {"-3/4", "3/4", "3/4", "-1"}, {"3/4", "-3/4", "3/4", "1"}, {"2.5s", "-2.5s", "2.5s", "1s"}, {"-2.5s", "2.5s", "2.5s", "-1s"}, {"0s", "-0.0s", "0s", "0s"}, {"-0.0s", "0s", "0s", "-0.0s"}, {"-0.0d", "0d", "0d", "-0.0d"}, {"-2.5d", "2.5d", "2.5d", "-1d"}, {"1e-300d", "-1e-300d", "1e-300d", "1d"},
		{"(1 2)", "(-1 -2)", "!type", "!type"}, {"(0 -1)", "(0 1)", "!type", "!type"}, {"(0s -0.0s)", "(-0.0s 0s)", "!type", "!type"}, {"(1/2 -2d)", "!form", "!form", "!form"},
	} {
		x := num(t, c.x)
		got, e := number.Neg(x)
		expect(t, "Neg of "+c.x, got, e, c.neg)
		got, e = number.Abs(x)
		expect(t, "Abs of "+c.x, got, e, c.abs)
		got, e = number.Signum(x)
		expect(t, "Signum of "+c.x, got, e, c.signum)
	}
}

func TestPower(t *testing.T) {
	for _, c := range []struct {
		x    string
		n    int
		want string
	}{
		{"3/2", -2, "4/9"}, {"3/2", 2, "9/4"}, {"2", 10, "1024"}, {"2", -10, "1/1024"}, {"-2", 3, "-8"}, {"-2", -3, "-1/8"}, {"0", 0, "1"}, {"0s", 0, "1"}, {"(1s 2s)", 0, "1"}, {"2.5d", 0, "1"}, {"0", 5, "0"}, {"0", -1, "!zero"}, {"0s", -1, "!zero"}, {"-0.0s", 3, "-0.0s"}, {"-0.0s", 2, "0s"}, {"1.5s", 1, "1.5s"}, {"-0.0d", 1, "-0.0d"}, {"1.5s", 2, "2.25s"}, {"2s", -1, "0.5s"}, {"2s", 127, "1.7014118e38s"}, {"2s", 128, "!over"}, {"2d", -1023, "1.1125369292536007e-308d"}, {"2d", 1023, "8.98846567431158e307d"}, {"1e-30s", 2, "0s"}, {"1e-30s", -2, "!zero"}, {"1e30s", -2, "!over"},
		{"(0 1)", 2, "-1"}, {"(0 1)", 3, "(0 -1)"}, {"(0 1)", 4, "1"}, {"(0 1)", -1, "(0 -1)"}, {"(1 1)", 2, "(0 2)"}, {"(1 1)", -2, "(0 -1/2)"}, {"(1 1)", 1, "(1 1)"}, {"(1 1)", 8, "16"}, {"(0s 1s)", 2, "(-1s 0s)"}, {"(1/2 1/2)", 4, "-1/4"}, {"(1 2)", -1, "(1/5 -2/5)"}, {"(1 2)", 5, "(41 -38)"},
		{"5", 4097, "!arg"}, {"5", -4097, "!arg"}, {"0", -4097, "!arg"}, {"(1 1)", math.MaxInt, "!arg"}, {"5", math.MinInt, "!arg"},
	} {
		got, e := number.Power(num(t, c.x), c.n)
		expect(t, "Power of "+c.x, got, e, c.want)
	}
	z := new(big.Rat).SetInt(new(big.Int).Lsh(big.NewInt(1), 4096))
	got, e := number.Power(num(t, "2"), 4096)
	is(t, "Power 4096", got, e, exactOf(z))
	got, e = number.Power(num(t, "2"), -4096)
	is(t, "Power -4096", got, e, exactOf(z.Inv(z)))
	// In the order of the binary digits: 1.1^5 is (1.1^2)^2 times 1.1, and not another product.
	x := num(t, "1.1s")
	square, _ := number.Mul(x, x)
	fourth, _ := number.Mul(square, square)
	fifth, _ := number.Mul(fourth, x)
	got, e = number.Power(x, 5)
	is(t, "Power 5", got, e, fifth)
	cube, _ := number.Mul(square, x)
	sixth, _ := number.Mul(cube, cube)
	seventh, _ := number.Mul(sixth, x)
	got, e = number.Power(x, 7)
	is(t, "Power 7", got, e, seventh)
	inverse, _ := number.Div(num(t, "1"), seventh)
	got, e = number.Power(x, -7)
	is(t, "Power -7", got, e, inverse)
}

func TestPowerLimits(t *testing.T) {
	twoTo := func(n int) api.Form {
		x, e := number.Shift(num(t, "1"), n)
		if e != api.OK {
			t.Fatal(e)
		}
		return x
	}
	inverse := func(x api.Form) api.Form { return api.Form{Kind: api.FormRatio, Text: "1/" + x.Text} }
	widest, _ := number.Sub(twoTo(32768), num(t, "1")) // its square has just as many digits as are allowed
	for _, c := range []struct {
		x    api.Form
		n    int
		want string
	}{
		{twoTo(16), 4096, "!large"}, {twoTo(16), 4095, ""}, {twoTo(16), -4096, "!large"}, {twoTo(16), -4095, ""}, {twoTo(32768), 2, "!large"}, {twoTo(32767), 2, ""}, {twoTo(65535), 1, ""}, {twoTo(65535), 2, "!large"}, {ofBytes(api.MaxDigits), 1, ""}, {ofBytes(api.MaxDigits), 2, "!large"}, {ofBytes(api.MaxDigits), -1, "!large"}, {ofBytes(api.MaxDigits - 2), -1, ""},
		{widest, 2, ""}, {inverse(widest), 2, ""}, {inverse(widest), -2, ""}, {inverse(twoTo(32768)), 2, "!large"}, {inverse(twoTo(32767)), 2, ""}, {inverse(widest), 3, "!large"},
		{api.Form{Kind: api.FormRatio, Text: "1/" + ofBytes(10001).Text}, 2, "!large"}, {api.Form{Kind: api.FormRatio, Text: ofBytes(6000).Text + "/1" + strings.Repeat("0", 5999)}, 2, "!large"}, {api.Form{Kind: api.FormComplex, Kids: []api.Form{twoTo(40000), num(t, "1")}}, 2, "!large"}, {api.Form{Kind: api.FormComplex, Kids: []api.Form{num(t, "1"), twoTo(40000)}}, 2, "!large"}, {num(t, "(1/7 100000)"), 4096, "!large"}, {num(t, "10"), 4096, ""}, {num(t, "1/10"), -4096, ""},
	} {
		got, e := number.Power(c.x, c.n)
		if c.want != "" {
			expect(t, "Power "+short(c.x), got, e, c.want)
		} else if e != api.OK || number.Check(got) != api.OK {
			t.Errorf("Power of %v and %d: %v", short(c.x), c.n, e)
		}
	}
}

func TestRoot(t *testing.T) {
	for x, want := range map[string]string{
		"9/4": "3/2", "4": "2", "0": "0", "1": "1", "2": "1.4142135s", "1/2": "0.70710677s", "-4": "(0 2)", "-9/4": "(0 3/2)", "-2": "(0s 1.4142135s)", "-1/2": "(0s 0.70710677s)", "4s": "2s", "2s": "1.4142135s", "2d": "1.4142135623730951d", "0s": "0s", "-0.0s": "-0.0s", "-0.0d": "-0.0d", "-4s": "(0s 2s)", "-2d": "(0d 1.4142135623730951d)", "(0 1)": "!type", "(1s 0s)": "!type", "1e40": "100000000000000000000", "1e80": "1e40", "1e77": "3.1622777e38s", "2e77": "!over", "-2e77": "!over", "1e100": "1e50", "1e101": "!over", "-1e101": "!over", "1e4001": "!over", "1e-4001": "0s", "1e-91": "0s", "1e-89": "3e-45s", "2e-90": "1e-45s", "3e-91": "0s", "4e-91": "0s", "5e-91": "1e-45s", "-1e-4001": "(0s 0s)", "-1e-89": "(0s 3e-45s)", "16777217": "4096s", "1000000007": "31622.777s",
	} {
		got, e := number.Root(num(t, x))
		expect(t, "Root of "+x, got, e, want)
	}
	// The root of a rational number is rounded once. 3f800001 is 1 + 2^-23: roots near the middle of it and 1 go up or down.
	for _, c := range []struct{ x, want string }{{"70368752566272/70368744177664", "1s"}, {"70368752566273/70368744177664", "1.0000001s"}, {"70368752566274/70368744177664", "1.0000001s"}} {
		got, e := number.Root(num(t, c.x))
		expect(t, "Root of "+c.x, got, e, c.want)
	}
	// The root is a bit less, or more, than 1 + 3/2^24, the middle of 3f800001 and 3f800002.
	middle := big.NewRat(1<<24+3, 1<<24)
	square := new(big.Rat).Mul(middle, middle)
	bit := new(big.Rat).SetFrac(big.NewInt(1), new(big.Int).Lsh(big.NewInt(1), 100))
	got, e := number.Root(exactOf(new(big.Rat).Sub(square, bit)))
	is(t, "Root of a bit less", got, e, api.Form{Kind: api.FormSingle, Text: "3f800001"})
	got, e = number.Root(exactOf(new(big.Rat).Add(square, bit)))
	is(t, "Root of a bit more", got, e, api.Form{Kind: api.FormSingle, Text: "3f800002"})
	for _, x := range exacts(t, 2, 200) {
		if x.Kind == api.FormComplex {
			continue
		}
		square, _ := number.Mul(x, x)
		got, e := number.Root(square)
		abs, _ := number.Abs(x)
		is(t, "Root of a square", got, e, abs)
	}
}

func TestLongResults(t *testing.T) {
	long := ofBytes(api.MaxDigits)
	minus := api.Form{Kind: api.FormInt, Text: "-" + ofBytes(api.MaxDigits-1).Text}
	got, e := number.Neg(long)
	fails(t, "Neg of 20000 bytes", got, e, api.ErrLarge)
	got, e = number.Neg(minus)
	is(t, "Neg of 20000 bytes below 0", got, e, ofBytes(api.MaxDigits-1))
	got, e = number.Abs(minus)
	is(t, "Abs of 20000 bytes below 0", got, e, ofBytes(api.MaxDigits-1))
	got, e = number.Add(long, long)
	fails(t, "Add of 20000 bytes", got, e, api.ErrLarge)
	got, e = number.Sub(num(t, "0"), long)
	fails(t, "Sub of 20000 bytes", got, e, api.ErrLarge)
	got, e = number.Mul(long, num(t, "10"))
	fails(t, "Mul of 20000 bytes", got, e, api.ErrLarge)
	got, e = number.Mul(long, num(t, "1"))
	is(t, "Mul of 20000 bytes by 1", got, e, long)
	got, e = number.Div(num(t, "1"), long)
	fails(t, "Div by 20000 bytes", got, e, api.ErrLarge)
	got, e = number.Div(long, long)
	is(t, "Div of 20000 bytes by itself", got, e, num(t, "1"))
	x := api.Form{Kind: api.FormComplex, Kids: []api.Form{num(t, "1"), long}}
	got, e = number.Conjugate(x)
	fails(t, "Conjugate of 20000 bytes", got, e, api.ErrLarge)
	got, e = number.Imaginary(x)
	is(t, "Imaginary of 20000 bytes", got, e, long)
	got, e = number.Sub(num(t, "(1 -1)"), x)
	fails(t, "Sub of complex 20000 bytes", got, e, api.ErrLarge)
	q, r, e := number.Quotient(number.Floor, long, api.Form{Kind: api.FormRatio, Text: "1/10"})
	fails(t, "Quotient of 20000 bytes", q, e, api.ErrLarge)
	fails(t, "the remainder of it", r, e, api.ErrLarge)
	q, r, e = number.Quotient(number.Truncate, api.Form{Kind: api.FormRatio, Text: "1/" + ofBytes(api.MaxDigits-2).Text}, num(t, "1"))
	is(t, "Quotient of a long ratio", q, e, num(t, "0"))
	is(t, "the remainder of a long ratio", r, e, api.Form{Kind: api.FormRatio, Text: "1/" + ofBytes(api.MaxDigits-2).Text})
	q, r, e = number.Quotient(number.Ceiling, api.Form{Kind: api.FormRatio, Text: "1/" + ofBytes(api.MaxDigits-2).Text}, num(t, "1"))
	fails(t, "Quotient with a long remainder", q, e, api.ErrLarge)
	fails(t, "the long remainder", r, e, api.ErrLarge)
}
