package number_test

import (
	"math/big"
	"strings"
	"testing"

	"commonform/api"
	"commonform/number"
)

// must returns the result of a call that has no error and a right number.
func must(t *testing.T, x api.Form, e api.Errno) api.Form {
	t.Helper()
	if e != api.OK || number.Check(x) != api.OK {
		t.Fatalf("%v, %v", short(x), e)
	}
	return x
}

func TestFieldOfExactNumbers(t *testing.T) {
	l := exacts(t, 7, 160)
	add := func(x, y api.Form) api.Form { z, e := number.Add(x, y); return must(t, z, e) }
	mul := func(x, y api.Form) api.Form { z, e := number.Mul(x, y); return must(t, z, e) }
	for i := range len(l) - 2 {
		for _, k := range []int{i + 1, (i * 7) % len(l)} {
			x, y, z := l[i], l[k], l[i+2]
			difference, e := number.Sub(add(x, y), y)
			must(t, difference, e)
			for what, both := range map[string][2]api.Form{
				"Add is commutative":  {add(x, y), add(y, x)},
				"Mul is commutative":  {mul(x, y), mul(y, x)},
				"Add is associative":  {add(add(x, y), z), add(x, add(y, z))},
				"Mul is associative":  {mul(mul(x, y), z), mul(x, mul(y, z))},
				"Mul is distributive": {mul(x, add(y, z)), add(mul(x, y), mul(x, z))},
				"Sub undoes Add":      {difference, x},
			} {
				if !equal(both[0], both[1]) {
					t.Errorf("%s: not for %v, %v, %v", what, x, y, z)
				}
			}
			if quotient, e := number.Div(mul(x, y), y); !equal(y, num(t, "0")) {
				is(t, "Div undoes Mul", quotient, e, x)
			} else {
				fails(t, "Div by 0", quotient, e, api.ErrZero)
			}
			if isRational(x) && isRational(y) {
				is(t, "Add", add(x, y), api.OK, exactOf(new(big.Rat).Add(valueOf(x), valueOf(y))))
				is(t, "Mul", mul(x, y), api.OK, exactOf(new(big.Rat).Mul(valueOf(x), valueOf(y))))
			}
		}
	}
}

func TestContagion(t *testing.T) {
	rank := func(x api.Form) int {
		if isRational(x) {
			return 0
		}
		return x.Kind
	}
	l := reals(t, 8, 90)
	for _, x := range l {
		for _, y := range l {
			for what, f := range map[string]func(x, y api.Form) (api.Form, api.Errno){"Add": number.Add, "Sub": number.Sub, "Mul": number.Mul} {
				z, e := f(x, y)
				if e == api.ErrOver && max(rank(x), rank(y)) > 0 {
					continue
				}
				if e != api.OK || number.Check(z) != api.OK || rank(z) != max(rank(x), rank(y)) {
					t.Errorf("%s of %v and %v: %v, %v", what, x, y, z, e)
				}
			}
		}
	}
}

func TestPowerOfSums(t *testing.T) {
	for _, x := range exacts(t, 9, 60) {
		for m := range 6 {
			for n := range 6 {
				p, _ := number.Power(x, m)
				q, _ := number.Power(x, n)
				product, _ := number.Mul(p, q)
				both, e := number.Power(x, m+n)
				is(t, "Power of a sum", both, e, product)
			}
		}
	}
}

func TestGcdAndLcm(t *testing.T) {
	for _, c := range []struct {
		l        []string
		gcd, lcm string
	}{
		{nil, "0", "1"}, {[]string{"12", "-18"}, "6", "36"}, {[]string{"4", "6"}, "2", "12"}, {[]string{"-5"}, "5", "5"}, {[]string{"0"}, "0", "0"}, {[]string{"0", "7"}, "7", "0"}, {[]string{"7", "0", "3"}, "1", "0"}, {[]string{"-4", "-6"}, "2", "12"}, {[]string{"6", "10", "15"}, "1", "30"}, {[]string{"1"}, "1", "1"}, {[]string{"100000000000000000000", "50000000000000000000"}, "50000000000000000000", "100000000000000000000"},
		{[]string{"1/2"}, "!type", "!type"}, {[]string{"1", "2s"}, "!type", "!type"}, {[]string{"0", "1d"}, "!type", "!type"}, {[]string{"(1 2)", "3"}, "!type", "!type"}, {[]string{"2", "-1/2", "0"}, "!type", "!type"},
	} {
		got, e := number.Gcd(nums(t, c.l...))
		expect(t, "Gcd", got, e, c.gcd)
		got, e = number.Lcm(nums(t, c.l...))
		expect(t, "Lcm", got, e, c.lcm)
	}
	bad := api.Form{Kind: api.FormInt, Text: "01"}
	for _, f := range []func([]api.Form) (api.Form, api.Errno){number.Gcd, number.Lcm} {
		got, e := f([]api.Form{num(t, "1"), num(t, "1s"), bad})
		fails(t, "the first error of a list", got, e, api.ErrType)
		got, e = f([]api.Form{num(t, "1"), bad, num(t, "1s")})
		fails(t, "the first error of a list", got, e, api.ErrForm)
		got, e = f([]api.Form{ofBytes(api.MaxDigits + 1), bad, num(t, "1s")})
		fails(t, "the first error of a list", got, e, api.ErrLarge)
		got, e = f([]api.Form{ofBytes(api.MaxDigits), num(t, "3d")})
		fails(t, "an error behind a great integer", got, e, api.ErrType)
	}
	l := exacts(t, 10, 200)
	for i := range len(l) - 1 {
		x, y := l[i], l[i+1]
		if x.Kind != api.FormInt || y.Kind != api.FormInt {
			continue
		}
		gcd, e := number.Gcd([]api.Form{x, y})
		must(t, gcd, e)
		lcm, e := number.Lcm([]api.Form{x, y})
		must(t, lcm, e)
		product, _ := number.Mul(x, y)
		size, _ := number.Abs(product)
		both, e := number.Mul(gcd, lcm)
		is(t, "Gcd times Lcm", both, e, size)
	}
}

func TestLcmLimits(t *testing.T) {
	twoTo := func(n int) api.Form { return exactOf(new(big.Rat).SetInt(new(big.Int).Lsh(big.NewInt(1), uint(n)))) }
	got, e := number.Lcm([]api.Form{twoTo(65535)})
	is(t, "Lcm of 2^65535", got, e, twoTo(65535))
	got, e = number.Lcm([]api.Form{twoTo(65535), twoTo(3)})
	is(t, "Lcm of 2^65535 and 8", got, e, twoTo(65535))
	got, e = number.Lcm([]api.Form{twoTo(65536)})
	fails(t, "Lcm of 2^65536", got, e, api.ErrLarge)
	got, e = number.Lcm([]api.Form{twoTo(65535), num(t, "3")})
	fails(t, "Lcm of 2^65535 and 3", got, e, api.ErrLarge)
	got, e = number.Lcm([]api.Form{twoTo(65535), num(t, "3"), num(t, "0")})
	is(t, "Lcm with 0", got, e, num(t, "0"))
	got, e = number.Lcm([]api.Form{twoTo(65535), num(t, "3"), num(t, "1/3")})
	fails(t, "Lcm with a ratio behind", got, e, api.ErrType)
	got, e = number.Gcd([]api.Form{twoTo(66000), twoTo(65999)})
	is(t, "Gcd of great integers", got, e, twoTo(65999))
}

func TestBooleAndShift(t *testing.T) {
	for _, c := range []struct {
		op         int
		x, y, want string
	}{{8, "12", "10", "8"}, {14, "12", "10", "14"}, {6, "12", "10", "6"}, {3, "-4", "7", "3"}, {1, "-4", "7", "0"}, {8, "-4", "7", "4"}, {14, "-4", "7", "-1"}, {0, "5", "5", "0"}, {15, "5", "5", "-1"}, {16, "1", "1", "!arg"}, {-1, "1", "1", "!arg"}, {16, "1/2", "1", "!type"}, {16, "1", "1s", "!type"}, {8, "1s", "1", "!type"}, {8, "1", "(0 1)", "!type"}, {8, "1d", "1/2", "!type"}} {
		got, e := number.Boole(c.op, num(t, c.x), num(t, c.y))
		expect(t, "Boole", got, e, c.want)
	}
	bad := api.Form{Kind: api.FormInt, Text: "01"}
	got, e := number.Boole(8, num(t, "1s"), bad)
	fails(t, "Boole, the error of a number ahead of its kind", got, e, api.ErrForm)
	for _, c := range []struct {
		x    string
		n    int
		want string
	}{{"-5", -1, "-3"}, {"5", 3, "40"}, {"5", 0, "5"}, {"0", 1 << 40, "0"}, {"1", -(1 << 40), "0"}, {"-1", -(1 << 40), "-1"}, {"1", 65536, "!large"}, {"1", 1 << 40, "!large"}, {"1/2", 1, "!type"}, {"1s", 1 << 40, "!type"}, {"(0 1)", 1, "!type"}} {
		got, e := number.Shift(num(t, c.x), c.n)
		expect(t, "Shift of "+c.x, got, e, c.want)
	}
	long := ofBytes(api.MaxDigits)
	got, e = number.Shift(long, 0)
	is(t, "Shift of 20000 bytes by 0", got, e, long)
	got, e = number.Boole(3, long, num(t, "0"))
	fails(t, "not of 20000 bytes", got, e, api.ErrLarge)
	got, e = number.Boole(12, long, num(t, "0"))
	is(t, "Boole 12 of 20000 bytes", got, e, long)
	got, e = number.Shift(api.Form{Kind: api.FormInt, Text: "1" + strings.Repeat("0", 19000)}, 10)
	must(t, got, e)
}
