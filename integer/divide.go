package integer

import (
	"math/bits"
	"slices"
)

// divide returns the quotient of x and y, rounded down, and the remainder; y is not 0.
func divide(x, y []uint32) (quotient, remainder []uint32) {
	if compare(x, y) < 0 {
		return nil, slices.Clone(x)
	}
	if len(y) == 1 {
		q, r := divideByLimb(x, y[0])
		return q, word(uint64(r))
	}
	// With its top bit set, the top limbs of the divisor tell a digit of the quotient but for two at most.
	shift := bits.LeadingZeros32(y[len(y)-1])
	divisor := left(y, shift)
	rest := make([]uint32, len(x)+1)
	copy(rest, left(x, shift))
	quotient = make([]uint32, len(x)-len(y)+1)
	for i := len(quotient) - 1; i >= 0; i-- {
		quotient[i] = takeDigit(rest[i:i+len(y)+1], divisor)
	}
	return trim(quotient), right(trim(rest), shift)
}

// divideByLimb returns the quotient and the remainder by one limb.
func divideByLimb(x []uint32, y uint32) ([]uint32, uint32) {
	q := make([]uint32, len(x))
	r := uint32(0)
	for i := len(x) - 1; i >= 0; i-- {
		q[i], r = bits.Div32(r, x[i], y)
	}
	return trim(q), r
}

// takeDigit returns the digit of the quotient for the part of the rest that is one limb longer than the divisor, and takes it times the divisor away from there.
func takeDigit(part, divisor []uint32) uint32 {
	digit := guess(part, divisor)
	if digit == 0 {
		return 0
	}
	if takeAway(part, divisor, digit) {
		giveBack(part, divisor)
		digit--
	}
	return uint32(digit)
}

// guess returns the digit, or one more than it.
func guess(part, divisor []uint32) uint64 {
	n := len(divisor)
	top := uint64(part[n])<<limbBits | uint64(part[n-1])
	first, second := uint64(divisor[n-1]), uint64(divisor[n-2])
	digit := min(top/first, limbMask)
	rest := top - digit*first
	for rest <= limbMask && digit*second > rest<<limbBits|uint64(part[n-2]) {
		digit--
		rest += first
	}
	return digit
}

// takeAway subtracts the digit times the divisor, and reports whether this was too much.
func takeAway(part, divisor []uint32, digit uint64) bool {
	carry, borrow := uint64(0), uint32(0)
	for i, limb := range divisor {
		carry += digit * uint64(limb)
		part[i], borrow = bits.Sub32(part[i], uint32(carry), borrow)
		carry >>= limbBits
	}
	last := len(divisor)
	part[last], borrow = bits.Sub32(part[last], uint32(carry), borrow)
	return borrow == 1
}

func giveBack(part, divisor []uint32) {
	carry := uint32(0)
	for i, limb := range divisor {
		part[i], carry = bits.Add32(part[i], limb, carry)
	}
	part[len(divisor)] += carry
}
