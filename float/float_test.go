package float_test

import (
	"fmt"
	"math"
	"math/big"
	"testing"

	"commonform/api"
	"commonform/float"
	"commonform/integer"
	"commonform/rational"
)

func TestFormats(t *testing.T) {
	if float.Single != 0 || float.Double != 1 {
		t.Error("the numbers of the formats")
	}
}

func TestValue(t *testing.T) {
	for _, f := range formats {
		for _, x := range floats(f, 1, 400) {
			v, e := float.Value(f, x)
			if e != api.OK || fraction(v).Cmp(exactly(f, x)) != 0 {
				t.Errorf("Value of %x: %v, %v", x, fraction(v), e)
			}
		}
	}
	for s, x := range map[string]uint64{"1": 0x3f800000, "0": 0x80000000, "-3/2": 0xbfc00000, "16777215": 0x4b7fffff} {
		if v, e := float.Value(float.Single, x); e != api.OK || fraction(v).Cmp(rat(t, s)) != 0 {
			t.Errorf("Value of %x: %v, %v", x, fraction(v), e)
		}
	}
}

// Every function returns ErrArg for a wrong format and for bits that are no float, and zero values with it.
func TestErrorsOfFloats(t *testing.T) {
	type call func(f float.Format, x uint64) (any, api.Errno)
	one := map[float.Format]uint64{float.Single: 0x3f800000, float.Double: 0x3ff0000000000000}
	calls := map[string]call{
		"Value": func(f float.Format, x uint64) (any, api.Errno) { v, e := float.Value(f, x); return v.Sign(), e },
		"Convert": func(f float.Format, x uint64) (any, api.Errno) {
			y, e := float.Convert(f, x, float.Double)
			return int(y), e
		},
		"Decode":      decodeAll,
		"Precision":   func(f float.Format, x uint64) (any, api.Errno) { n, e := float.Precision(f, x); return n, e },
		"Scale":       func(f float.Format, x uint64) (any, api.Errno) { y, e := float.Scale(f, x, -1); return int(y), e },
		"Next up":     func(f float.Format, x uint64) (any, api.Errno) { y, e := float.Next(f, x, true); return int(y), e },
		"Next down":   func(f float.Format, x uint64) (any, api.Errno) { y, e := float.Next(f, x, false); return int(y), e },
		"Neg":         func(f float.Format, x uint64) (any, api.Errno) { y, e := float.Neg(f, x); return int(y), e },
		"Add":         func(f float.Format, x uint64) (any, api.Errno) { y, e := float.Add(f, x, one[f]); return int(y), e },
		"Add, second": func(f float.Format, x uint64) (any, api.Errno) { y, e := float.Add(f, one[f], x); return int(y), e },
		"Sub":         func(f float.Format, x uint64) (any, api.Errno) { y, e := float.Sub(f, x, one[f]); return int(y), e },
		"Sub, second": func(f float.Format, x uint64) (any, api.Errno) { y, e := float.Sub(f, one[f], x); return int(y), e },
		"Mul":         func(f float.Format, x uint64) (any, api.Errno) { y, e := float.Mul(f, x, one[f]); return int(y), e },
		"Mul, second": func(f float.Format, x uint64) (any, api.Errno) { y, e := float.Mul(f, one[f], x); return int(y), e },
		"Div":         func(f float.Format, x uint64) (any, api.Errno) { y, e := float.Div(f, x, one[f]); return int(y), e },
		"Div by 0":    func(f float.Format, x uint64) (any, api.Errno) { y, e := float.Div(f, x, 0); return int(y), e },
		"Div, second": func(f float.Format, x uint64) (any, api.Errno) { y, e := float.Div(f, one[f], x); return int(y), e },
		"Root":        func(f float.Format, x uint64) (any, api.Errno) { y, e := float.Root(f, x); return int(y), e },
		"Compare": func(f float.Format, x uint64) (any, api.Errno) {
			y, e := float.Compare(f, x, float.Single, 1)
			return y, e
		},
		"Compare, other": func(f float.Format, x uint64) (any, api.Errno) {
			y, e := float.Compare(float.Single, 1, f, x)
			return y, e
		},
		"Shortest": func(f float.Format, x uint64) (any, api.Errno) { s, p, e := float.Shortest(f, x); return len(s) + p, e },
		"Print": func(f float.Format, x uint64) (any, api.Errno) {
			s, e := float.Print(f, x, float.Single)
			return len(s), e
		},
	}
	for what, f := range calls {
		for _, format := range noFormats {
			if got, e := f(format, 0); e != api.ErrArg || got != 0 {
				t.Errorf("%s, format %d: %v, %v", what, format, got, e)
			}
		}
		for _, format := range formats {
			for _, x := range wrong(format) {
				if got, e := f(format, x); e != api.ErrArg || got != 0 {
					t.Errorf("%s of %x: %v, %v", what, x, got, e)
				}
			}
		}
	}
	for _, format := range noFormats {
		x, e := float.Nearest(format, rational.Ratio{})
		equal(t, "Nearest, no format", x, e, 0, api.ErrArg)
		x, e = float.Convert(float.Single, 0x3f800000, format)
		equal(t, "Convert to no format", x, e, 0, api.ErrArg)
		x, e = float.Read(format, "1")
		equal(t, "Read, no format", x, e, 0, api.ErrArg)
		x, e = float.Read(format, "x")
		equal(t, "Read, no format and no number", x, e, 0, api.ErrArg)
		if s, e := float.Print(float.Single, 0x3f800000, format); s != "" || e != api.ErrArg {
			t.Errorf("Print, no usual format: %q, %v", s, e)
		}
	}
}

// decodeAll returns 0 if all results of Decode are.
func decodeAll(f float.Format, x uint64) (any, api.Errno) {
	m, exponent, sign, e := float.Decode(f, x)
	if m.Sign() == 0 && exponent == 0 && sign == 0 {
		return 0, e
	}
	return 1, e
}

func TestNearestExamples(t *testing.T) {
	two128 := "340282366920938463463374607431768211456"
	for _, c := range []struct {
		f    float.Format
		x    string
		want uint64
		e    api.Errno
	}{
		{float.Single, "1/3", 0x3eaaaaab, api.OK}, {float.Double, "1/3", 0x3fd5555555555555, api.OK}, {float.Single, two128, 0, api.ErrOver}, {float.Single, "-" + two128, 0, api.ErrOver}, {float.Single, "340282356779733661637539395458142568447", 0x7f7fffff, api.OK}, {float.Single, "-340282356779733661637539395458142568447", 0xff7fffff, api.OK}, {float.Single, "340282356779733661637539395458142568448", 0, api.ErrOver},
		{float.Single, "0", 0, api.OK}, {float.Single, "-1e-60", 0x80000000, api.OK}, {float.Single, "1e-60", 0, api.OK}, {float.Single, "1e-100000", 0, api.OK}, {float.Double, "-1e-100000", 1 << 63, api.OK}, {float.Double, "1e100000", 0, api.ErrOver}, {float.Single, "16777217", 0x4b800000, api.OK}, {float.Single, "16777219", 0x4b800002, api.OK}, {float.Single, "33554431", 0x4c000000, api.OK},
		{float.Double, "1e308", 0x7fe1ccf385ebc8a0, api.OK}, {float.Double, "1e309", 0, api.ErrOver}, {float.Double, "5e-324", 1, api.OK}, {float.Double, "-5e-324", 1<<63 + 1, api.OK},
	} {
		x, e := float.Nearest(c.f, of(rat(t, c.x)))
		equal(t, "Nearest of "+c.x, x, e, c.want, c.e)
	}
}

// Nearest of values, of the middles between neighbours, and of what lies next to these.
func TestNearest(t *testing.T) {
	for _, f := range formats {
		for _, x := range floats(f, 2, 300) {
			size := x &^ signBit(f)
			here, next := exactly(f, size), new(big.Rat)
			if size+1 < infinity(f) {
				next = exactly(f, size+1)
			} else {
				next.Add(here, new(big.Rat).Sub(here, exactly(f, size-1)))
			}
			middle := new(big.Rat).Mul(new(big.Rat).Add(here, next), big.NewRat(1, 2))
			near := new(big.Rat).Mul(middle, rat(t, "1e-40"))
			for _, z := range []*big.Rat{here, middle, new(big.Rat).Add(middle, near), new(big.Rat).Sub(middle, near), new(big.Rat).Mul(here, big.NewRat(3, 7))} {
				for _, signed := range []*big.Rat{z, new(big.Rat).Neg(z)} {
					want, wantError := nearestBits(f, signed)
					got, e := float.Nearest(f, of(signed))
					equal(t, fmt.Sprintf("Nearest of %v", signed), got, e, want, wantError)
				}
			}
			even := size + size&1
			got, e := float.Nearest(f, of(middle))
			if even < infinity(f) {
				equal(t, "Nearest of a middle", got, e, even, api.OK)
			} else {
				equal(t, "Nearest of the middle behind the greatest", got, e, 0, api.ErrOver)
			}
		}
	}
}

func TestNearestOfValue(t *testing.T) {
	for _, f := range formats {
		for _, x := range floats(f, 3, 400) {
			v, _ := float.Value(f, x)
			want := x
			if x == signBit(f) {
				want = 0
			}
			got, e := float.Nearest(f, v)
			equal(t, "Nearest of Value", got, e, want, api.OK)
		}
	}
}

func TestConvert(t *testing.T) {
	for _, x := range floats(float.Single, 4, 400) {
		double, e := float.Convert(float.Single, x, float.Double)
		equal(t, "Convert to Double", double, e, math.Float64bits(float64(math.Float32frombits(uint32(x)))), api.OK)
		back, e := float.Convert(float.Double, double, float.Single)
		equal(t, "Convert to Double and back", back, e, x, api.OK)
		same, e := float.Convert(float.Single, x, float.Single)
		equal(t, "Convert to the same", same, e, x, api.OK)
	}
	for _, x := range append(floats(float.Double, 5, 400), math.Float64bits(math.MaxFloat32*(1+1e-9)), math.Float64bits(1e-46), math.Float64bits(-1e-46), math.Float64bits(1e39)) {
		single, e := float.Convert(float.Double, x, float.Single)
		want := uint64(math.Float32bits(float32(math.Float64frombits(x))))
		if want&^signBit(float.Single) >= infinity(float.Single) {
			equal(t, "Convert to Single", single, e, 0, api.ErrOver)
			continue
		}
		equal(t, "Convert to Single", single, e, want, api.OK)
	}
}

func TestDecode(t *testing.T) {
	for _, c := range []struct {
		f              float.Format
		x              uint64
		m              string
		exponent, sign int
	}{
		{float.Single, 0x3f800000, "8388608", -23, 1}, {float.Single, 0xbf800000, "8388608", -23, -1}, {float.Single, 0, "0", -149, 1}, {float.Single, 1 << 31, "0", -149, -1}, {float.Single, 1, "1", -149, 1}, {float.Single, 0x007fffff, "8388607", -149, 1}, {float.Single, 0x00800000, "8388608", -149, 1}, {float.Single, 0x01000000, "8388608", -148, 1}, {float.Single, 0x7f7fffff, "16777215", 104, 1},
		{float.Double, 1 << 63, "0", -1074, -1}, {float.Double, 0x7fefffffffffffff, "9007199254740991", 971, 1}, {float.Double, 0x0010000000000000, "4503599627370496", -1074, 1}, {float.Double, 0xc000000000000000, "4503599627370496", -51, -1},
	} {
		m, exponent, sign, e := float.Decode(c.f, c.x)
		if whole(m).String() != c.m || exponent != c.exponent || sign != c.sign || e != api.OK {
			t.Errorf("Decode of %x: %v, %d, %d, %v", c.x, whole(m), exponent, sign, e)
		}
	}
	for _, f := range formats {
		for _, x := range floats(f, 6, 200) {
			m, exponent, sign, e := float.Decode(f, x)
			v := new(big.Rat).SetInt(whole(m))
			v.Mul(v, new(big.Rat).SetFloat64(math.Ldexp(1, max(exponent, -1000)))).Mul(v, new(big.Rat).SetFloat64(math.Ldexp(1, min(0, exponent+1000)))).Mul(v, big.NewRat(int64(sign), 1))
			if e != api.OK || v.Cmp(exactly(f, x)) != 0 {
				t.Errorf("Decode of %x: %v, %d, %d, %v", x, whole(m), exponent, sign, e)
			}
			n, e := float.Precision(f, x)
			if n != whole(m).BitLen() || e != api.OK {
				t.Errorf("Precision of %x: %d, %v", x, n, e)
			}
		}
	}
	for x, want := range map[uint64]int{0: 0, 1 << 31: 0, 1: 1, 5: 3, 0x007fffff: 23, 0x00800000: 24, 0x3f800000: 24, 0xff7fffff: 24} {
		if n, e := float.Precision(float.Single, x); n != want || e != api.OK {
			t.Errorf("Precision of %x: %d, %v", x, n, e)
		}
	}
}

func TestScale(t *testing.T) {
	for _, f := range formats {
		for i, x := range floats(f, 7, 300) {
			for _, n := range []int{0, 1, -1, 23 - i%50, -(i % 200), i % 300, -1100, 1000} {
				z := exactly(f, x)
				power := new(big.Rat).SetInt(new(big.Int).Lsh(big.NewInt(1), uint(max(n, -n))))
				if n < 0 {
					power.Inv(power)
				}
				want, wantError := nearestBits(f, z.Mul(z, power))
				if x&^signBit(f) == 0 {
					want = x
				}
				got, e := float.Scale(f, x, n)
				equal(t, fmt.Sprintf("Scale of %x by %d", x, n), got, e, want, wantError)
			}
			for _, n := range []int{math.MinInt, -1 << 40, -10000} {
				got, e := float.Scale(f, x, n)
				equal(t, "Scale far down", got, e, x&signBit(f), api.OK)
			}
			for _, n := range []int{math.MaxInt, 1 << 40, 10000} {
				got, e := float.Scale(f, x, n)
				if x&^signBit(f) == 0 {
					equal(t, "Scale of 0", got, e, x, api.OK)
				} else {
					equal(t, "Scale far up", got, e, 0, api.ErrOver)
				}
			}
		}
	}
	got, e := float.Scale(float.Single, 0x3f800000, -149)
	equal(t, "2^-149", got, e, 1, api.OK)
	got, e = float.Scale(float.Single, 0xbf800000, -150)
	equal(t, "-2^-150", got, e, 1<<31, api.OK)
	got, e = float.Scale(float.Single, 0x3fc00000, -149)
	equal(t, "1.5 by 2^-149", got, e, 2, api.OK)
}

func TestNext(t *testing.T) {
	for _, c := range []struct {
		x    uint64
		up   bool
		want uint64
		e    api.Errno
	}{{0, true, 1, api.OK}, {0, false, 0x80000001, api.OK}, {1 << 31, true, 1, api.OK}, {1 << 31, false, 0x80000001, api.OK}, {1, false, 0, api.OK}, {0x80000001, true, 0, api.OK}, {0x7f7fffff, true, 0, api.ErrOver}, {0x7f7fffff, false, 0x7f7ffffe, api.OK}, {0xff7fffff, false, 0, api.ErrOver}, {0xff7fffff, true, 0xff7ffffe, api.OK}, {0x3f800000, true, 0x3f800001, api.OK}, {0x3f800000, false, 0x3f7fffff, api.OK}, {0xbf800000, true, 0xbf7fffff, api.OK}, {0xbf800000, false, 0xbf800001, api.OK}, {0x007fffff, true, 0x00800000, api.OK}} {
		got, e := float.Next(float.Single, c.x, c.up)
		equal(t, fmt.Sprintf("Next of %x, %v", c.x, c.up), got, e, c.want, c.e)
	}
	for _, f := range formats {
		for _, x := range floats(f, 8, 300) {
			for _, up := range []bool{true, false} {
				checkNext(t, f, x, up)
			}
		}
	}
}

// checkNext holds Next against the library, and goes back from there.
func checkNext(t *testing.T, f float.Format, x uint64, up bool) {
	t.Helper()
	way := math.Inf(-1)
	if up {
		way = math.Inf(1)
	}
	var want uint64
	if f == float.Single {
		want = uint64(math.Float32bits(math.Nextafter32(math.Float32frombits(uint32(x)), float32(way))))
	} else {
		want = math.Float64bits(math.Nextafter(math.Float64frombits(x), way))
	}
	if want == signBit(f) {
		want = 0
	}
	got, e := float.Next(f, x, up)
	if want&^signBit(f) >= infinity(f) {
		equal(t, "Next of the greatest", got, e, 0, api.ErrOver)
		return
	}
	equal(t, "Next", got, e, want, api.OK)
	back, e := float.Next(f, got, !up)
	if x == signBit(f) {
		x = 0
	}
	equal(t, "Next, there and back", back, e, x, api.OK)
	here, _ := float.Value(f, x)
	there, _ := float.Value(f, got)
	if (there.Cmp(here) > 0) != up {
		t.Errorf("Next of %x, %v: the value is not beyond", x, up)
	}
	third, _ := rational.New(integer.New(1), integer.New(3))
	between := here.Add(there.Sub(here).Mul(third))
	near, e := float.Nearest(f, between)
	if near&^signBit(f) != x&^signBit(f) || e != api.OK {
		t.Errorf("Nearest of a fraction behind %x: %x, %v", x, near, e)
	}
}

// Nearest does not fall with a growing fraction.
func TestNearestIsMonotone(t *testing.T) {
	for _, f := range formats {
		l := floats(f, 9, 200)
		for i := range len(l) - 1 {
			a := new(big.Rat).Mul(exactly(f, l[i]), big.NewRat(999, 1000))
			b := new(big.Rat).Mul(exactly(f, l[i+1]), big.NewRat(999, 1000))
			if a.Cmp(b) > 0 {
				a, b = b, a
			}
			x, _ := float.Nearest(f, of(a))
			y, _ := float.Nearest(f, of(b))
			if n, e := float.Compare(f, x, f, y); n > 0 || e != api.OK {
				t.Errorf("Nearest of %v and %v: %x, %x", a, b, x, y)
			}
		}
	}
}
