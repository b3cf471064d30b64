package rational_test

import (
	"math/big"
	"math/rand"
	"testing"

	"commonform/api"
	"commonform/integer"
	"commonform/rational"
)

func whole(x integer.Int) *big.Int {
	negative, limbs := x.Limbs()
	z := new(big.Int)
	for i := len(limbs) - 1; i >= 0; i-- {
		z.Lsh(z, 32).Or(z, big.NewInt(int64(limbs[i])))
	}
	if negative {
		z.Neg(z)
	}
	return z
}

func ofWhole(z *big.Int) integer.Int {
	var limbs []uint32
	low := big.NewInt(1<<32 - 1)
	for rest := new(big.Int).Abs(z); rest.Sign() > 0; rest.Rsh(rest, 32) {
		limbs = append(limbs, uint32(new(big.Int).And(rest, low).Uint64()))
	}
	return integer.Make(z.Sign() < 0, limbs)
}

func of(z *big.Rat) rational.Ratio {
	x, _ := rational.New(ofWhole(z.Num()), ofWhole(z.Denom()))
	return x
}

// ratio returns the library's fraction of a text.
func bigRatio(t *testing.T, s string) *big.Rat {
	t.Helper()
	z, ok := new(big.Rat).SetString(s)
	if !ok {
		t.Fatalf("no fraction: %q", s)
	}
	return z
}

func ratio(t *testing.T, s string) rational.Ratio {
	t.Helper()
	return of(bigRatio(t, s))
}

// same fails unless a fraction is the one of the library, in lowest terms.
func same(t *testing.T, what string, got rational.Ratio, want *big.Rat) {
	t.Helper()
	n, d := whole(got.Numerator()), whole(got.Denominator())
	if n.Cmp(want.Num()) != 0 || d.Cmp(want.Denom()) != 0 {
		t.Fatalf("%s = %v/%v, expected %v", what, n, d, want)
	}
	if got.Sign() != want.Sign() || got.Whole() != want.IsInt() {
		t.Fatalf("%s = %v: Sign %d, Whole %v", what, want, got.Sign(), got.Whole())
	}
}

// fails fails unless there is this error, and 0 with it.
func fails(t *testing.T, what string, got rational.Ratio, e, want api.Errno) {
	t.Helper()
	if e != want {
		t.Errorf("%s: error %v, expected %v", what, e, want)
	}
	if want != api.OK && (got.Sign() != 0 || whole(got.Denominator()).Cmp(big.NewInt(1)) != 0) {
		t.Errorf("%s: not 0 with an error", what)
	}
}

// fractions returns fractions with parts of many lengths; many of them have equal denominators, or ones with common divisors.
func fractions(seed int64, n, longest int) []*big.Rat {
	r := rand.New(rand.NewSource(seed))
	part := func() *big.Int {
		if r.Intn(3) == 0 {
			return big.NewInt(int64(r.Intn(13)))
		}
		return new(big.Int).Rand(r, new(big.Int).Lsh(big.NewInt(1), uint(r.Intn(longest)+1)))
	}
	var l []*big.Rat
	for range n {
		top, bottom := part(), part()
		if bottom.Sign() == 0 || r.Intn(5) == 0 {
			bottom.SetInt64(1)
		}
		if r.Intn(2) == 0 {
			top.Neg(top)
		}
		l = append(l, new(big.Rat).SetFrac(top, bottom))
	}
	return l
}
