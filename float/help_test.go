package float_test

import (
	"math"
	"math/big"
	"math/rand"
	"testing"

	"commonform/api"
	"commonform/float"
	"commonform/integer"
	"commonform/rational"
)

func whole(x integer.Int) *big.Int {
	negative, limbs := x.Limbs()
	z := new(big.Int)
	for i := len(limbs) - 1; i >= 0; i-- {
		z.Lsh(z, 32).Or(z, big.NewInt(int64(limbs[i])))
	}
	if negative {
		z.Neg(z)
	}
	return z
}

func ofWhole(z *big.Int) integer.Int {
	var limbs []uint32
	low := big.NewInt(1<<32 - 1)
	for rest := new(big.Int).Abs(z); rest.Sign() > 0; rest.Rsh(rest, 32) {
		limbs = append(limbs, uint32(new(big.Int).And(rest, low).Uint64()))
	}
	return integer.Make(z.Sign() < 0, limbs)
}

func of(z *big.Rat) rational.Ratio {
	x, _ := rational.New(ofWhole(z.Num()), ofWhole(z.Denom()))
	return x
}

func fraction(x rational.Ratio) *big.Rat {
	return new(big.Rat).SetFrac(whole(x.Numerator()), whole(x.Denominator()))
}

// rat returns the library's fraction of a text such as 1/3 or 1e400.
func rat(t *testing.T, s string) *big.Rat {
	t.Helper()
	z, ok := new(big.Rat).SetString(s)
	if !ok {
		t.Fatalf("no fraction: %q", s)
	}
	return z
}

// exactly returns the value of a float by the library.
func exactly(f float.Format, x uint64) *big.Rat {
	if f == float.Single {
		return new(big.Rat).SetFloat64(float64(math.Float32frombits(uint32(x))))
	}
	return new(big.Rat).SetFloat64(math.Float64frombits(x))
}

// nearestBits returns what Nearest has to return for a fraction, by the library.
func nearestBits(f float.Format, z *big.Rat) (uint64, api.Errno) {
	if f == float.Single {
		v, _ := z.Float32()
		return bitsOrOver(f, uint64(math.Float32bits(v)), z)
	}
	v, _ := z.Float64()
	return bitsOrOver(f, math.Float64bits(v), z)
}

func bitsOrOver(f float.Format, bits uint64, z *big.Rat) (uint64, api.Errno) {
	size := bits &^ signBit(f)
	switch {
	case size >= infinity(f):
		return 0, api.ErrOver
	case z.Sign() < 0: // the library's 0 for a tiny number has no sign everywhere
		return size | signBit(f), api.OK
	}
	return size, api.OK
}

func signBit(f float.Format) uint64 {
	if f == float.Single {
		return 1 << 31
	}
	return 1 << 63
}

func infinity(f float.Format) uint64 {
	if f == float.Single {
		return 0x7f800000
	}
	return 0x7ff0000000000000
}

// wrong returns bits that are no float of the format: infinities, not a number, and for Single too many bits.
func wrong(f float.Format) []uint64 {
	if f == float.Single {
		return []uint64{0x7f800000, 0xff800000, 0x7fc00000, 0xffc00000, 0x7f800001, 0xffffffff, 1 << 32, 1<<32 | 0x3f800000, math.MaxUint64}
	}
	return []uint64{0x7ff0000000000000, 0xfff0000000000000, 0x7ff8000000000000, 0x7ff0000000000001, math.MaxUint64}
}

var formats = []float.Format{float.Single, float.Double}

var noFormats = []float.Format{-1, 2, 100, math.MinInt, math.MaxInt}

// edges returns floats at the edges: zeros, the least and greatest ones, those around powers of two, and where the last place changes.
func edges(f float.Format) []uint64 {
	digits, one := 23, uint64(0x3f800000)
	if f == float.Double {
		digits, one = 52, 0x3ff0000000000000
	}
	normal := uint64(1) << digits
	l := []uint64{0, 1, 2, 3, 5, normal - 1, normal, normal + 1, 2 * normal, 2*normal - 1, infinity(f) - 1, infinity(f) - 2, infinity(f) - normal, infinity(f) - normal - 1, one, one - 1, one + 1, one + normal, one + normal - 1, one + normal/2, one - normal, one + uint64(digits)*normal, one + uint64(digits+1)*normal, one + uint64(digits+1)*normal + 1, one - uint64(digits+1)*normal}
	for _, x := range l {
		l = append(l, x|signBit(f))
	}
	return l
}

// floats returns the edges and more floats, of all sizes and of middle ones.
func floats(f float.Format, seed int64, n int) []uint64 {
	r := rand.New(rand.NewSource(seed))
	l := edges(f)
	for len(l) < n {
		x := r.Uint64()
		if r.Intn(2) == 0 && f == float.Double {
			x = math.Float64bits(r.NormFloat64() * math.Pow(10, float64(r.Intn(12)-4)))
		} else if r.Intn(2) == 0 {
			x = uint64(math.Float32bits(float32(r.NormFloat64() * math.Pow(10, float64(r.Intn(12)-4)))))
		}
		if f == float.Single {
			x &= 1<<32 - 1
		}
		if x&^signBit(f) < infinity(f) {
			l = append(l, x)
		}
	}
	return l
}

// equal fails unless bits and error are those that are expected.
func equal(t *testing.T, what string, got uint64, e api.Errno, want uint64, wantError api.Errno) {
	t.Helper()
	if got != want || e != wantError {
		t.Errorf("%s = %x, %v; expected %x, %v", what, got, e, want, wantError)
	}
}
