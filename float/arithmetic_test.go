package float_test

import (
	"fmt"
	"math"
	"testing"

	"commonform/api"
	"commonform/float"
)

// hardware returns the bits of what the machine calculates, which is rounded in the same way.
func hardware(f float.Format, op byte, x, y uint64) (uint64, api.Errno) {
	var bits uint64
	if f == float.Single {
		a, b := math.Float32frombits(uint32(x)), math.Float32frombits(uint32(y))
		bits = uint64(math.Float32bits(map[byte]func() float32{'+': func() float32 { return a + b }, '-': func() float32 { return a - b }, '*': func() float32 { return a * b }, '/': func() float32 { return a / b }}[op]()))
	} else {
		a, b := math.Float64frombits(x), math.Float64frombits(y)
		bits = math.Float64bits(map[byte]func() float64{'+': func() float64 { return a + b }, '-': func() float64 { return a - b }, '*': func() float64 { return a * b }, '/': func() float64 { return a / b }}[op]())
	}
	switch {
	case op == '/' && y&^signBit(f) == 0:
		return 0, api.ErrZero
	case bits&^signBit(f) >= infinity(f):
		return 0, api.ErrOver
	}
	return bits, api.OK
}

func TestArithmetic(t *testing.T) {
	calls := map[byte]func(f float.Format, x, y uint64) (uint64, api.Errno){'+': float.Add, '-': float.Sub, '*': float.Mul, '/': float.Div}
	for _, f := range formats {
		checkPair := func(x, y uint64) {
			for op, call := range calls {
				want, wantError := hardware(f, op, x, y)
				got, e := call(f, x, y)
				equal(t, fmt.Sprintf("%x %c %x", x, op, y), got, e, want, wantError)
			}
		}
		l := floats(f, 10, 400)
		for i, x := range l {
			checkPair(x, l[(i*7+3)%len(l)])
			checkPair(x, x)
			checkPair(x, x^signBit(f))
			checkPair(x, x^1)
			checkPair(x, x^signBit(f)^1)
		}
		for _, x := range edges(f) {
			for _, y := range edges(f) {
				checkPair(x, y)
			}
		}
	}
}

func TestArithmeticExamples(t *testing.T) {
	const one, two, tiny, minus, great = 0x3f800000, 0x40000000, 1, 1 << 31, 0x7f7fffff
	for _, c := range []struct {
		what string
		f    func(f float.Format, x, y uint64) (uint64, api.Errno)
		x, y uint64
		want uint64
		e    api.Errno
	}{
		{"Add", float.Add, one, 0x33800000, one, api.OK}, {"Add", float.Add, one, 0x33800001, 0x3f800001, api.OK}, {"Add", float.Add, minus, minus, minus, api.OK}, {"Add", float.Add, minus, 0, 0, api.OK}, {"Add", float.Add, 0, minus, 0, api.OK}, {"Add", float.Add, 0, 0, 0, api.OK}, {"Add", float.Add, one, one | minus, 0, api.OK}, {"Add", float.Add, one | minus, one, 0, api.OK}, {"Add", float.Add, great, great, 0, api.ErrOver}, {"Add", float.Add, great, 0x73000000 - 1, great, api.OK}, {"Add", float.Add, great, 0x73000000, 0, api.ErrOver}, {"Add", float.Add, tiny, tiny, 2, api.OK}, {"Add", float.Add, minus, one, one, api.OK},
		{"Sub", float.Sub, 0, 0, 0, api.OK}, {"Sub", float.Sub, minus, 0, minus, api.OK}, {"Sub", float.Sub, 0, minus, 0, api.OK}, {"Sub", float.Sub, minus, minus, 0, api.OK}, {"Sub", float.Sub, one, one, 0, api.OK}, {"Sub", float.Sub, great, great | minus, 0, api.ErrOver}, {"Sub", float.Sub, two, one, one, api.OK},
		{"Mul", float.Mul, minus, one, minus, api.OK}, {"Mul", float.Mul, 0, one | minus, minus, api.OK}, {"Mul", float.Mul, minus, one | minus, 0, api.OK}, {"Mul", float.Mul, minus, minus, 0, api.OK}, {"Mul", float.Mul, tiny, tiny, 0, api.OK}, {"Mul", float.Mul, tiny, tiny | minus, minus, api.OK}, {"Mul", float.Mul, great, two, 0, api.ErrOver}, {"Mul", float.Mul, tiny, 0x3f000000, 0, api.OK}, {"Mul", float.Mul, 3, 0x3f000000, 2, api.OK},
		{"Div", float.Div, one, 0, 0, api.ErrZero}, {"Div", float.Div, one, minus, 0, api.ErrZero}, {"Div", float.Div, 0, 0, 0, api.ErrZero}, {"Div", float.Div, minus, minus, 0, api.ErrZero}, {"Div", float.Div, 0, one | minus, minus, api.OK}, {"Div", float.Div, minus, one, minus, api.OK}, {"Div", float.Div, minus, one | minus, 0, api.OK}, {"Div", float.Div, great, tiny, 0, api.ErrOver}, {"Div", float.Div, tiny, great | minus, minus, api.OK}, {"Div", float.Div, one, 0x40400000, 0x3eaaaaab, api.OK},
	} {
		got, e := c.f(float.Single, c.x, c.y)
		equal(t, fmt.Sprintf("%s of %x and %x", c.what, c.x, c.y), got, e, c.want, c.e)
	}
}

func TestNeg(t *testing.T) {
	for _, f := range formats {
		for _, x := range floats(f, 11, 100) {
			got, e := float.Neg(f, x)
			equal(t, "Neg", got, e, x^signBit(f), api.OK)
			sum, e := float.Add(f, x, got)
			equal(t, "x and its Neg", sum, e, 0, api.OK)
		}
	}
}

// Sums of opposite floats at most a factor of 2 apart are exact; products with powers of two are those of Scale.
func TestExactResults(t *testing.T) {
	for i, x := range floats(float.Single, 12, 400) {
		y := x ^ 1<<31 ^ uint64(i*97)&0x3fffff
		a, b := exactly(float.Single, x), exactly(float.Single, y)
		sum, e := float.Add(float.Single, x, y)
		if a.Add(a, b); e != api.OK || exactly(float.Single, sum).Cmp(a) != 0 {
			t.Errorf("%x + %x = %x, %v: not exact", x, y, sum, e)
		}
		for _, n := range []int{-126, -30, -1, 0, 1, 40, 127} {
			power, _ := float.Scale(float.Single, 0x3f800000, n)
			want, wantError := float.Scale(float.Single, x, n)
			got, e := float.Mul(float.Single, x, power)
			equal(t, "Mul by a power of two", got, e, want, wantError)
		}
	}
}

func TestRoot(t *testing.T) {
	for x, want := range map[uint64]uint64{0x40000000: 0x3fb504f3, 0x40800000: 0x40000000, 0: 0, 1 << 31: 1 << 31, 1: 0x1a3504f3, 0x7f7fffff: 0x5f7fffff, 0x3f800000: 0x3f800000} {
		got, e := float.Root(float.Single, x)
		equal(t, fmt.Sprintf("Root of %x", x), got, e, want, api.OK)
	}
	for _, f := range formats {
		for _, x := range floats(f, 13, 500) {
			got, e := float.Root(f, x)
			switch {
			case x > signBit(f):
				equal(t, fmt.Sprintf("Root of %x", x), got, e, 0, api.ErrArg)
			case f == float.Single:
				// The root of the double is exact enough to be rounded again.
				equal(t, fmt.Sprintf("Root of %x", x), got, e, uint64(math.Float32bits(float32(math.Sqrt(float64(math.Float32frombits(uint32(x))))))), api.OK)
			default:
				equal(t, fmt.Sprintf("Root of %x", x), got, e, math.Float64bits(math.Sqrt(math.Float64frombits(x))), api.OK)
			}
		}
	}
	for n := range 2000 {
		x := uint64(math.Float32bits(float32(n)))
		square, _ := float.Mul(float.Single, x, x)
		got, e := float.Root(float.Single, square)
		equal(t, "Root of a square", got, e, x, api.OK)
	}
}

func TestCompare(t *testing.T) {
	for _, f := range formats {
		for _, g := range formats {
			l, m := floats(f, 14, 150), floats(g, 15, 150)
			for i, x := range l {
				for _, y := range []uint64{m[i], m[(i*11)%len(m)], m[len(m)-1-i]} {
					got, e := float.Compare(f, x, g, y)
					if got != exactly(f, x).Cmp(exactly(g, y)) || e != api.OK {
						t.Errorf("Compare of %x and %x: %d, %v", x, y, got, e)
					}
				}
			}
		}
	}
	for _, c := range []struct {
		f    float.Format
		x    uint64
		g    float.Format
		y    uint64
		want int
	}{{float.Single, 0, float.Single, 1 << 31, 0}, {float.Single, 0, float.Double, 1 << 63, 0}, {float.Single, 0x3dcccccd, float.Double, 0x3fb999999999999a, 1}, {float.Double, 0x3fb999999999999a, float.Single, 0x3dcccccd, -1}, {float.Single, 0x3f800000, float.Double, 0x3ff0000000000000, 0}, {float.Single, 0xbf800000, float.Single, 0xbf800001, 1}, {float.Single, 0xbf800000, float.Single, 1, -1}} {
		if got, e := float.Compare(c.f, c.x, c.g, c.y); got != c.want || e != api.OK {
			t.Errorf("Compare of %x and %x: %d, %v", c.x, c.y, got, e)
		}
	}
}
