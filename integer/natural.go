package integer

import (
	"math/bits"
	"slices"
)

// Natural numbers are lists of limbs, the least significant first, without zeros at the top. Functions of them change no argument, and return new lists.

const (
	limbBits = 32
	limbMask = 1<<limbBits - 1
)

// splitLimit is the number of limbs from which on it is quicker to multiply in halves.
const splitLimit = 40

// trim leaves out the zeros at the top.
func trim(x []uint32) []uint32 {
	n := len(x)
	for n > 0 && x[n-1] == 0 {
		n--
	}
	return x[:n]
}

func copied(x []uint32) []uint32 {
	return slices.Clone(trim(x))
}

// word returns the limbs of a number of 64 bits.
func word(n uint64) []uint32 {
	return trim([]uint32{uint32(n), uint32(n >> limbBits)})
}

// low returns the number that the two lowest limbs make.
func low(x []uint32) uint64 {
	n := uint64(0)
	for i := range min(len(x), 2) {
		n |= uint64(x[i]) << (limbBits * i)
	}
	return n
}

// width returns the number of binary digits.
func width(x []uint32) int {
	if len(x) == 0 {
		return 0
	}
	return limbBits*(len(x)-1) + bits.Len32(x[len(x)-1])
}

func compare(x, y []uint32) int {
	switch {
	case len(x) < len(y):
		return -1
	case len(x) > len(y):
		return 1
	}
	for i := len(x) - 1; i >= 0; i-- {
		switch {
		case x[i] < y[i]:
			return -1
		case x[i] > y[i]:
			return 1
		}
	}
	return 0
}

func sum(x, y []uint32) []uint32 {
	if len(x) < len(y) {
		x, y = y, x
	}
	z := make([]uint32, len(x)+1)
	copy(z, x)
	increase(z, y)
	return trim(z)
}

// increase adds y to z, which has room for the sum.
func increase(z, y []uint32) {
	carry := uint64(0)
	for i := 0; i < len(y) || carry > 0; i++ {
		carry += uint64(z[i])
		if i < len(y) {
			carry += uint64(y[i])
		}
		z[i] = uint32(carry)
		carry >>= limbBits
	}
}

// difference returns x - y for a y that is not above x.
func difference(x, y []uint32) []uint32 {
	z := slices.Clone(x)
	borrow := uint32(0)
	for i := 0; i < len(y) || borrow > 0; i++ {
		part := uint32(0)
		if i < len(y) {
			part = y[i]
		}
		z[i], borrow = bits.Sub32(z[i], part, borrow)
	}
	return trim(z)
}

func product(x, y []uint32) []uint32 {
	if len(x) < len(y) {
		x, y = y, x
	}
	if len(y) < splitLimit {
		return rows(x, y)
	}
	half := (len(x) + 1) / 2
	z := make([]uint32, len(x)+len(y)+1)
	a, b := trim(x[:half]), x[half:]
	if len(y) <= half {
		increase(z, product(a, y))
		increase(z[half:], product(b, y))
		return trim(z)
	}
	// Three products of halves are enough: (a + b)(c + d) has both mixed ones.
	c, d := trim(y[:half]), y[half:]
	bottom, top := product(a, c), product(b, d)
	mixed := difference(product(sum(a, b), sum(c, d)), sum(bottom, top))
	increase(z, bottom)
	increase(z[half:], mixed)
	increase(z[2*half:], top)
	return trim(z)
}

// rows multiplies limb by limb.
func rows(x, y []uint32) []uint32 {
	z := make([]uint32, len(x)+len(y))
	for i, factor := range y {
		carry := uint64(0)
		for j, limb := range x {
			carry += uint64(z[i+j]) + uint64(limb)*uint64(factor)
			z[i+j] = uint32(carry)
			carry >>= limbBits
		}
		z[i+len(x)] = uint32(carry)
	}
	return trim(z)
}

// left returns x times 2 to the power of n.
func left(x []uint32, n int) []uint32 {
	if len(x) == 0 {
		return nil
	}
	limbs, shift := n/limbBits, n%limbBits
	z := make([]uint32, len(x)+limbs+1)
	for i, limb := range x {
		moved := uint64(limb) << shift
		z[limbs+i] |= uint32(moved)
		z[limbs+i+1] = uint32(moved >> limbBits)
	}
	return trim(z)
}

// right returns x divided by 2 to the power of n, rounded down.
func right(x []uint32, n int) []uint32 {
	limbs, shift := n/limbBits, n%limbBits
	if limbs >= len(x) {
		return nil
	}
	z := make([]uint32, len(x)-limbs)
	for i := range z {
		z[i] = uint32(low(x[limbs+i:]) >> shift)
	}
	return trim(z)
}
