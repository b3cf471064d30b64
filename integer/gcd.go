package integer

import (
	"math/bits"
	"slices"
)

// divisor returns the greatest common divisor, by Lehmer's way: many steps of Euclid are made on the 64 top bits alone, and then carried out on the whole numbers at once.
func divisor(x, y []uint32) []uint32 {
	a, b := slices.Clone(x), slices.Clone(y)
	if compare(a, b) < 0 {
		a, b = b, a
	}
	for len(b) > 2 {
		s, some := lookAhead(a, b)
		if some {
			a, b = s.apply(a, b)
			continue
		}
		_, rest := divide(a, b)
		a, b = b, rest
	}
	if len(b) == 0 {
		return a
	}
	_, rest := divide(a, b)
	m, n := low(b), low(rest)
	for n != 0 {
		m, n = n, m%n
	}
	return word(m)
}

// steps are several steps of Euclid: with signs that alternate, a becomes a0 a - b0 b and b becomes b1 b - a1 a, or each the opposite if odd is set.
type steps struct {
	a0, b0, a1, b1 uint64
	odd            bool
}

// lookAhead finds the steps that the top bits of a and b tell for sure (Collins' condition), and whether there are some; a is not below b, and has more than 64 bits.
func lookAhead(a, b []uint32) (steps, bool) {
	at := width(a) - 64
	m, n := window(a, at), window(b, at)
	a0, a1, a2 := uint64(0), uint64(1), uint64(0)
	b0, b1, b2 := uint64(0), uint64(0), uint64(1)
	odd := true
	for n >= b2 && m-n >= b1+b2 {
		q, r := m/n, m%n
		m, n = n, r
		a0, a1, a2 = a1, a2, a1+q*a2
		b0, b1, b2 = b1, b2, b1+q*b2
		odd = !odd
	}
	return steps{a0, b0, a1, b1, odd}, b0 != 0
}

// window returns the 64 bits of x from a place on.
func window(x []uint32, at int) uint64 {
	limbs, shift := at/limbBits, at%limbBits
	if limbs >= len(x) {
		return 0
	}
	n := low(x[limbs:]) >> shift
	if limbs+2 < len(x) {
		n |= uint64(x[limbs+2]) << (2*limbBits - shift)
	}
	return n
}

func (s steps) apply(a, b []uint32) ([]uint32, []uint32) {
	if s.odd {
		return mixed(b, s.b0, a, s.a0), mixed(a, s.a1, b, s.b1)
	}
	return mixed(a, s.a0, b, s.b0), mixed(b, s.b1, a, s.a1)
}

// mixed returns m x - n y for factors of 32 bits; this is not below 0, nor above the greater one of x and y.
func mixed(x []uint32, m uint64, y []uint32, n uint64) []uint32 {
	z := make([]uint32, max(len(x), len(y)))
	plus, minus, borrow := uint64(0), uint64(0), uint32(0)
	for i := range z {
		if i < len(x) {
			plus += m * uint64(x[i])
		}
		if i < len(y) {
			minus += n * uint64(y[i])
		}
		z[i], borrow = bits.Sub32(uint32(plus), uint32(minus), borrow)
		plus >>= limbBits
		minus >>= limbBits
	}
	return trim(z)
}
