package integer_test

import (
	"math"
	"math/big"
	"slices"
	"testing"

	"commonform/api"
	"commonform/integer"
)

func TestNew(t *testing.T) {
	for _, n := range []int64{0, 1, -1, 2, -2, 1<<31 - 1, 1 << 31, 1<<32 - 1, 1 << 32, -1 << 31, -1 << 32, 1<<62 + 12345, math.MaxInt64, math.MinInt64, math.MinInt64 + 1} {
		x := integer.New(n)
		same(t, "New", x, big.NewInt(n))
		if got, ok := x.Int64(); got != n || !ok {
			t.Errorf("Int64 of %d = %d, %v", n, got, ok)
		}
	}
}

func TestZeroValue(t *testing.T) {
	var zero integer.Int
	negative, limbs := zero.Limbs()
	if negative || len(limbs) != 0 || zero.Sign() != 0 || zero.Odd() || zero.Cmp(integer.New(0)) != 0 || zero.Length() != 0 {
		t.Error("the zero value is not 0")
	}
	same(t, "0 + 5", zero.Add(integer.New(5)), big.NewInt(5))
	same(t, "0 - 5", zero.Sub(integer.New(5)), big.NewInt(-5))
	same(t, "0 by 5", zero.Mul(integer.New(5)), big.NewInt(0))
	same(t, "-0", zero.Neg(), big.NewInt(0))
	if n, ok := zero.Int64(); n != 0 || !ok {
		t.Errorf("Int64 of 0: %d, %v", n, ok)
	}
}

func TestMakeAndLimbs(t *testing.T) {
	for _, c := range []struct {
		negative bool
		limbs    []uint32
		want     string
		back     []uint32
	}{
		{false, nil, "0", nil},
		{true, nil, "0", nil},
		{true, []uint32{0, 0, 0}, "0", nil},
		{false, []uint32{5}, "5", []uint32{5}},
		{true, []uint32{5, 1, 0, 0}, "-4294967301", []uint32{5, 1}},
		{false, []uint32{0, 0, 1}, "18446744073709551616", []uint32{0, 0, 1}},
		{true, []uint32{1<<32 - 1, 1<<32 - 1, 1<<32 - 1}, "-79228162514264337593543950335", []uint32{1<<32 - 1, 1<<32 - 1, 1<<32 - 1}},
	} {
		x := integer.Make(c.negative, c.limbs)
		same(t, "Make", x, bigOf(t, c.want))
		negative, limbs := x.Limbs()
		if !slices.Equal(limbs, c.back) || negative != (c.want[0] == '-') {
			t.Errorf("Limbs of %s: %v, %v", c.want, negative, limbs)
		}
	}
}

// What is done to limbs outside changes no number.
func TestMakeKeepsNoMemory(t *testing.T) {
	limbs := []uint32{1, 2, 3}
	x := integer.Make(false, limbs)
	want := value(x)
	limbs[0] = 99
	same(t, "Make, its argument changed later", x, want)
	_, limbs = x.Limbs()
	limbs[1] = 99
	same(t, "Limbs, its result changed later", x, want)
	if behind := limbs[:cap(limbs)]; len(behind) > 0 {
		behind[len(behind)-1] = 77
	}
	same(t, "Limbs, the memory behind its result changed", x, want)
	room := []uint32{7, 7, 7, 7}
	integer.Make(false, room[:2]).Add(integer.New(-1)).Mul(integer.New(1 << 40))
	if !slices.Equal(room, []uint32{7, 7, 7, 7}) {
		t.Errorf("the memory behind an argument: %v", room)
	}
}

func TestInt64OfGreatOnes(t *testing.T) {
	for _, s := range []string{"9223372036854775808", "-9223372036854775809", "18446744073709551615", "18446744073709551616", "-18446744073709551616", "2^96+5", "-(2^64+1)"} {
		if n, ok := whole(t, s).Int64(); n != 0 || ok {
			t.Errorf("Int64 of %s = %d, %v", s, n, ok)
		}
	}
}

func TestSignAndCmpAndOdd(t *testing.T) {
	l := numbers(1, 60, 130)
	for _, a := range l {
		x := of(a)
		if x.Sign() != a.Sign() || x.Odd() != (a.Bit(0) == 1) {
			t.Errorf("%v: Sign %d, Odd %v", a, x.Sign(), x.Odd())
		}
		for _, b := range l {
			if got := x.Cmp(of(b)); got != a.Cmp(b) {
				t.Errorf("Cmp of %v and %v = %d", a, b, got)
			}
			if got := x.Sub(of(b)).Sign(); got != a.Cmp(b) {
				t.Errorf("Sign of %v - %v = %d", a, b, got)
			}
		}
	}
	for _, c := range []struct {
		x, y string
		want int
	}{{"3", "-4", 1}, {"-5", "-4", -1}, {"-4", "-5", 1}, {"0", "-1", 1}, {"-1", "0", -1}, {"2^64", "2^32", 1}, {"-(2^64)", "-(2^32)", -1}, {"-(2^64)", "1", -1}, {"7", "7", 0}, {"4294967296", "4294967295", 1}} {
		if got := whole(t, c.x).Cmp(whole(t, c.y)); got != c.want {
			t.Errorf("Cmp of %s and %s = %d", c.x, c.y, got)
		}
	}
}

func TestArithmetic(t *testing.T) {
	pairs(2, 400, 400, func(a, b *big.Int, x, y integer.Int) {
		same(t, "Add", x.Add(y), new(big.Int).Add(a, b))
		same(t, "Sub", x.Sub(y), new(big.Int).Sub(a, b))
		same(t, "Mul", x.Mul(y), new(big.Int).Mul(a, b))
		same(t, "Neg", x.Neg(), new(big.Int).Neg(a))
		same(t, "Abs", x.Abs(), new(big.Int).Abs(a))
		// values never change
		same(t, "the left operand", x, a)
		same(t, "the right operand", y, b)
	})
}

func TestGreatProducts(t *testing.T) {
	pairs(3, 12, 20000, func(a, b *big.Int, x, y integer.Int) {
		same(t, "Mul", x.Mul(y), new(big.Int).Mul(a, b))
		same(t, "Mul with itself", x.Mul(x), new(big.Int).Mul(a, a))
	})
}

func TestRing(t *testing.T) {
	l := numbers(4, 40, 300)
	for i := range len(l) - 2 {
		x, y, z := of(l[i]), of(l[i+1]), of(l[i+2])
		for what, equal := range map[string][2]integer.Int{
			"Add is commutative":   {x.Add(y), y.Add(x)},
			"Mul is commutative":   {x.Mul(y), y.Mul(x)},
			"Add is associative":   {x.Add(y).Add(z), x.Add(y.Add(z))},
			"Mul is associative":   {x.Mul(y).Mul(z), x.Mul(y.Mul(z))},
			"Mul is distributive":  {x.Mul(y.Add(z)), x.Mul(y).Add(x.Mul(z))},
			"Sub undoes Add":       {x.Add(y).Sub(y), x},
			"Neg is Sub from 0":    {x.Neg(), integer.New(0).Sub(x)},
			"x by -1 is Neg":       {x.Mul(integer.New(-1)), x.Neg()},
			"x and its Neg make 0": {x.Add(x.Neg()), integer.New(0)},
		} {
			if equal[0].Cmp(equal[1]) != 0 {
				t.Errorf("%s: not for %v, %v, %v", what, l[i], l[i+1], l[i+2])
			}
		}
		if x.Cmp(y) != x.Add(z).Cmp(y.Add(z)) {
			t.Errorf("Cmp of the sums with %v", l[i+2])
		}
		if z.Sign() > 0 && x.Cmp(y) != x.Mul(z).Cmp(y.Mul(z)) {
			t.Errorf("Cmp of the products with %v", l[i+2])
		}
	}
}

func TestDivide(t *testing.T) {
	for _, c := range []struct{ x, y, q, r string }{
		{"-7", "2", "-3", "-1"}, {"7", "-2", "-3", "1"}, {"-7", "-2", "3", "-1"}, {"7", "2", "3", "1"}, {"6", "3", "2", "0"}, {"0", "-5", "0", "0"}, {"1", "5", "0", "1"}, {"-4", "5", "0", "-4"},
		{"1000000000000000000000", "4294967296", "232830643653", "3735027712"}, {"2^200", "2^100", "1267650600228229401496703205376", "0"},
		{"2^96", "2^64-1", "4294967296", "4294967296"},
	} {
		q, r, e := whole(t, c.x).Divide(whole(t, c.y))
		same(t, c.x+" by "+c.y, q, bigOf(t, c.q))
		same(t, c.x+" by "+c.y+": the remainder", r, bigOf(t, c.r))
		if e != api.OK {
			t.Errorf("%s by %s: %v", c.x, c.y, e)
		}
	}
	pairs(5, 1500, 260, func(a, b *big.Int, x, y integer.Int) { checkDivision(t, a, b, x, y) })
	pairs(6, 10, 20000, func(a, b *big.Int, x, y integer.Int) { checkDivision(t, a, b, x, y) })
	for _, x := range []string{"0", "1", "-7", "2^100"} {
		q, r, e := whole(t, x).Divide(integer.New(0))
		if e != api.ErrZero || q.Sign() != 0 || r.Sign() != 0 {
			t.Errorf("%s by 0: %v, %v, %v", x, value(q), value(r), e)
		}
	}
}

// checkDivision holds a quotient against the library's, and the promise: x is y times the quotient plus the remainder.
func checkDivision(t *testing.T, a, b *big.Int, x, y integer.Int) {
	t.Helper()
	if b.Sign() == 0 {
		return
	}
	q, r, e := x.Divide(y)
	m, n := new(big.Int).QuoRem(a, b, new(big.Int))
	same(t, "the quotient", q, m)
	same(t, "the remainder", r, n)
	switch {
	case e != api.OK:
		t.Fatalf("Divide of %v and %v: %v", a, b, e)
	case y.Mul(q).Add(r).Cmp(x) != 0, r.Abs().Cmp(y.Abs()) >= 0, r.Sign() != 0 && r.Sign() != x.Sign():
		t.Fatalf("Divide of %v and %v: %v, %v", a, b, value(q), value(r))
	}
	same(t, "the dividend", x, a)
	same(t, "the divisor", y, b)
}

// The guess of a digit of the quotient is one too great here, and is put right.
func TestDivideGuesses(t *testing.T) {
	for _, c := range [][2][]uint32{
		{{0, 0, 0x80000000, 0x7fffffff}, {1, 0, 0x80000000}},
		{{3, 0, 0x80000000}, {1, 0x20000000}},
		{{0, 1<<32 - 2, 0x80000000}, {1<<32 - 1, 0x80000000}},
		{{0, 0, 0, 1, 0, 0x80000000 - 1}, {0, 0, 1, 0, 0x80000000}},
	} {
		x, y := integer.Make(false, c[0]), integer.Make(false, c[1])
		checkDivision(t, value(x), value(y), x, y)
	}
}

func TestGcd(t *testing.T) {
	for _, c := range []struct{ x, y, want string }{{"-12", "18", "6"}, {"0", "0", "0"}, {"0", "-5", "5"}, {"-5", "0", "5"}, {"1", "2^100", "1"}, {"2^100", "2^70", "1180591620717411303424"}, {"-9", "-6", "3"}, {"7", "7", "7"}, {"-7", "7", "7"}} {
		same(t, "Gcd of "+c.x+" and "+c.y, whole(t, c.x).Gcd(whole(t, c.y)), bigOf(t, c.want))
	}
	pairs(7, 150, 2000, func(a, b *big.Int, x, y integer.Int) {
		g := x.Gcd(y)
		same(t, "Gcd", g, new(big.Int).GCD(nil, nil, new(big.Int).Abs(a), new(big.Int).Abs(b)))
		same(t, "Gcd, the other way", y.Gcd(x), value(g))
		same(t, "the left operand", x, a)
	})
}

func TestGcdOfMultiples(t *testing.T) {
	l := numbers(8, 120, 300)
	for i := range len(l) - 2 {
		x, y, n := of(l[i]), of(l[i+1]), of(l[i+2])
		g := x.Mul(n).Gcd(y.Mul(n))
		if g.Cmp(n.Abs().Mul(x.Gcd(y))) != 0 {
			t.Errorf("Gcd of %v and %v, times %v: %v", l[i], l[i+1], l[i+2], value(g))
		}
		if g.Sign() == 0 {
			continue
		}
		for _, part := range []integer.Int{x.Mul(n), y.Mul(n)} {
			if _, r, _ := part.Divide(g); r.Sign() != 0 {
				t.Errorf("Gcd %v does not divide %v", value(g), value(part))
			}
		}
		if n.Sign() != 0 {
			if _, r, _ := g.Divide(n); r.Sign() != 0 {
				t.Errorf("the common divisor %v does not divide Gcd %v", l[i+2], value(g))
			}
		}
	}
	// Fibonacci's numbers have the most steps.
	x, y := integer.New(1), integer.New(1)
	for range 3000 {
		x, y = x.Add(y), x
	}
	same(t, "Gcd of Fibonacci's numbers", x.Gcd(y), big.NewInt(1))
}

func TestPower(t *testing.T) {
	for _, c := range []struct {
		x    string
		n    int
		want string
	}{
		{"-3", 3, "-27"}, {"-3", 2, "9"}, {"2", 10, "1024"}, {"10", 30, "10^30"}, {"0", 0, "1"}, {"5", 0, "1"}, {"-1", 0, "1"}, {"2^100", 0, "1"}, {"0", 1, "0"}, {"0", math.MaxInt, "0"},
		{"1", math.MaxInt, "1"}, {"-1", math.MaxInt, "-1"}, {"-1", math.MaxInt - 1, "1"}, {"7", 1, "7"}, {"-7", 1, "-7"}, {"2^65536-1", 0, "1"}, {"2^65536-1", 1, "2^65536-1"}, {"2", api.MaxBits - 1, "2^65535"},
		{"-2", api.MaxBits - 1, "-(2^65535)"}, {"-(2^65536)", 1, "-(2^65536)"}, {"3", 41348, "3^41348"}, {"-(2^256)", 255, "-(2^65280)"}, {"123456789012345678901", 17, "123456789012345678901^17"},
	} {
		x, e := whole(t, c.x).Power(c.n)
		fails(t, "Power", x, e, api.OK)
		same(t, "Power of "+c.x, x, bigOf(t, c.want))
	}
	for _, c := range []struct {
		x    string
		n    int
		want api.Errno
	}{
		{"2", -1, api.ErrArg}, {"0", -1, api.ErrArg}, {"1", -1, api.ErrArg}, {"1", math.MinInt, api.ErrArg}, {"2^65536", -5, api.ErrArg},
		{"2", api.MaxBits, api.ErrLarge}, {"-2", api.MaxBits, api.ErrLarge}, {"-2", api.MaxBits + 1, api.ErrLarge}, {"2", math.MaxInt, api.ErrLarge}, {"-3", math.MaxInt, api.ErrLarge}, {"3", 41349, api.ErrLarge},
		{"2^65536", 1, api.ErrLarge}, {"-(2^65536+1)", 1, api.ErrLarge}, {"2^40000", 2, api.ErrLarge}, {"2^70000", 3, api.ErrLarge}, {"-(2^32768)", 2, api.ErrLarge},
	} {
		x, e := whole(t, c.x).Power(c.n)
		fails(t, "Power of "+c.x[:min(9, len(c.x))], x, e, c.want)
	}
}

func TestPowerOfSums(t *testing.T) {
	for _, a := range numbers(9, 40, 100) {
		x := of(a)
		for m := range 5 {
			for n := range 5 {
				p, _ := x.Power(m)
				q, _ := x.Power(n)
				both, e := x.Power(m + n)
				fails(t, "Power", both, e, api.OK)
				same(t, "Power", both, new(big.Int).Exp(a, big.NewInt(int64(m+n)), nil))
				if both.Cmp(p.Mul(q)) != 0 {
					t.Errorf("Power of %v and %d + %d", a, m, n)
				}
			}
		}
	}
}

func TestRoot(t *testing.T) {
	for x, want := range map[string]string{"0": "0", "1": "1", "2": "1", "3": "1", "4": "2", "8": "2", "9": "3", "15": "3", "16": "4", "17": "4", "24": "4", "25": "5", "2^64-1": "4294967295", "2^64": "4294967296", "2^65536": "2^32768", "2^65536-1": "2^32768-1", "10^100": "10^50"} {
		r, e := whole(t, x).Root()
		fails(t, "Root of "+x, r, e, api.OK)
		same(t, "Root of "+x, r, bigOf(t, want))
	}
	for _, a := range numbers(10, 300, 700) {
		x := of(a)
		squared := x.Mul(x)
		r, e := squared.Root()
		fails(t, "Root", r, e, api.OK)
		same(t, "Root of a square", r, new(big.Int).Abs(a))
		if a.Sign() < 0 {
			r, e = x.Root()
			fails(t, "Root of "+a.String(), r, e, api.ErrArg)
			continue
		}
		r, e = x.Root()
		fails(t, "Root", r, e, api.OK)
		next := r.Add(integer.New(1))
		if r.Mul(r).Cmp(x) > 0 || next.Mul(next).Cmp(x) <= 0 {
			t.Errorf("Root of %v = %v", a, value(r))
		}
		if a.Sign() > 0 {
			r, e = squared.Sub(integer.New(1)).Root()
			fails(t, "Root", r, e, api.OK)
			same(t, "Root of one less than a square", r, new(big.Int).Sub(new(big.Int).Abs(a), big.NewInt(1)))
		}
	}
	r, e := integer.New(-1).Root()
	fails(t, "Root of -1", r, e, api.ErrArg)
}
