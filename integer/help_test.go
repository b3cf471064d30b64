package integer_test

import (
	"math/big"
	"math/rand"
	"strings"
	"testing"

	"commonform/api"
	"commonform/integer"
)

// value returns an integer as the library's one, by its limbs alone.
func value(x integer.Int) *big.Int {
	negative, limbs := x.Limbs()
	z := new(big.Int)
	for i := len(limbs) - 1; i >= 0; i-- {
		z.Lsh(z, 32).Or(z, big.NewInt(int64(limbs[i])))
	}
	if negative {
		z.Neg(z)
	}
	return z
}

// of returns the library's integer as one of this package.
func of(z *big.Int) integer.Int {
	var limbs []uint32
	low := big.NewInt(1<<32 - 1)
	for rest := new(big.Int).Abs(z); rest.Sign() > 0; rest.Rsh(rest, 32) {
		limbs = append(limbs, uint32(new(big.Int).And(rest, low).Uint64()))
	}
	return integer.Make(z.Sign() < 0, limbs)
}

// whole returns the integer of a text in the radix 10 that the library reads; it may have a form like 2^100-1.
func whole(t *testing.T, s string) integer.Int {
	t.Helper()
	return of(bigOf(t, s))
}

func bigOf(t *testing.T, s string) *big.Int {
	t.Helper()
	if rest, ok := strings.CutPrefix(s, "-("); ok {
		return new(big.Int).Neg(bigOf(t, strings.TrimSuffix(rest, ")")))
	}
	power, more, some := strings.Cut(s, "^")
	z, ok := new(big.Int).SetString(power, 10)
	if !ok {
		t.Fatalf("no integer: %q", s)
	}
	if some {
		at := strings.IndexAny(more, "+-")
		end := more
		if at >= 0 {
			end = more[:at]
		}
		z.Exp(z, bigOf(t, end), nil)
		if at >= 0 {
			z.Add(z, bigOf(t, strings.TrimPrefix(more[at:], "+")))
		}
	}
	return z
}

// same fails unless an integer is the one of the library, and has no zeros at the top.
func same(t *testing.T, what string, got integer.Int, want *big.Int) {
	t.Helper()
	negative, limbs := got.Limbs()
	if value(got).Cmp(want) != 0 {
		t.Fatalf("%s = %v, expected %v", what, value(got), want)
	}
	if n := len(limbs); n > 0 && limbs[n-1] == 0 || n == 0 && negative {
		t.Fatalf("%s: limbs %v, negative %v", what, limbs, negative)
	}
}

// fails fails unless there is this error, and zero values with it.
func fails(t *testing.T, what string, got integer.Int, e, want api.Errno) {
	t.Helper()
	if e != want {
		t.Errorf("%s: error %v, expected %v", what, e, want)
	}
	if want != api.OK && got.Sign() != 0 {
		t.Errorf("%s: %v with an error", what, value(got))
	}
}

// numbers returns integers of many lengths, some of them with limbs of zeros and ones alone, or next to a power of two: there carries run far, and digits of quotients are guessed wrong.
func numbers(seed int64, n, longest int) []*big.Int {
	r := rand.New(rand.NewSource(seed))
	patterns := []int64{0, 1, 1<<32 - 1, 1 << 31, 1<<31 - 1, 1<<32 - 2}
	var l []*big.Int
	for range n {
		z := new(big.Int)
		bits := r.Intn(longest + 1)
		switch r.Intn(4) {
		case 0:
			z.Rand(r, new(big.Int).Lsh(big.NewInt(1), uint(bits)))
		case 1:
			z.Lsh(big.NewInt(1), uint(bits))
			z.Add(z, big.NewInt(int64(r.Intn(5)-2)))
		case 2:
			for range bits/32 + 1 {
				z.Lsh(z, 32).Or(z, big.NewInt(patterns[r.Intn(len(patterns))]))
			}
		default:
			z.SetInt64(int64(r.Intn(41) - 20))
		}
		if r.Intn(2) == 0 {
			z.Neg(z)
		}
		l = append(l, z)
	}
	return l
}

// pairs calls f with pairs of integers, of equal and of different lengths.
func pairs(seed int64, n, longest int, f func(a, b *big.Int, x, y integer.Int)) {
	l := numbers(seed, n, longest)
	m := numbers(seed+1000, n, longest)
	short := numbers(seed+2000, n, 70)
	for i := range l {
		f(l[i], m[i], of(l[i]), of(m[i]))
		f(l[i], short[i], of(l[i]), of(short[i]))
		f(short[i], m[i], of(short[i]), of(m[i]))
	}
}
