package integer

import (
	"math/bits"

	"commonform/api"
)

// opposite returns -1 - x, whose bits are those of x, turned over.
func (x Int) opposite() Int {
	return New(-1).Sub(x)
}

// magnitude returns the limbs of x, or of its opposite if x is below 0.
func (x Int) magnitude() []uint32 {
	if x.negative {
		return difference(x.limbs, word(1))
	}
	return x.limbs
}

// complement returns the lowest n limbs of the bits of x.
func (x Int) complement(n int) []uint32 {
	turn := uint32(0)
	if x.negative {
		turn = limbMask
	}
	z := make([]uint32, n)
	copy(z, x.magnitude())
	for i := range z {
		z[i] ^= turn
	}
	return z
}

// ofComplement returns the integer with these bits, and all further ones equal to its sign.
func ofComplement(negative bool, limbs []uint32) Int {
	if !negative {
		return signed(false, limbs)
	}
	for i := range limbs {
		limbs[i] = ^limbs[i]
	}
	return signed(false, limbs).opposite()
}

// shifted returns x times 2 to the power of n, rounded down, whatever its length.
func (x Int) shifted(n int) Int {
	switch {
	case n >= 0:
		return signed(x.negative, left(x.limbs, n))
	case n <= -width(x.limbs) && x.negative:
		return New(-1)
	case n <= -width(x.limbs):
		return Int{}
	case x.negative:
		return signed(false, right(x.magnitude(), -n)).opposite()
	}
	return signed(false, right(x.limbs, -n))
}

// Shift returns x times 2 to the power of n, rounded down.
func (x Int) Shift(n int) (Int, api.Errno) {
	if n > 0 && x.Sign() != 0 && n > api.MaxBits-x.Length() {
		return Int{}, api.ErrLarge
	}
	if x.Sign() == 0 {
		return Int{}, api.OK
	}
	return x.shifted(n), api.OK
}

// Boole combines x and y bit by bit.
func (x Int) Boole(op int, y Int) (Int, api.Errno) {
	if op < 0 || op > 15 {
		return Int{}, api.ErrArg
	}
	combine := operation(op)
	n := max(len(x.limbs), len(y.limbs)) + 1
	a, b := x.complement(n), y.complement(n)
	for i := range a {
		a[i] = combine(a[i], b[i])
	}
	return ofComplement(a[n-1]>>(limbBits-1) == 1, a), api.OK
}

// operation returns the function that the four bits of op are the table of.
func operation(op int) func(a, b uint32) uint32 {
	var table [4]uint32
	for i := range table {
		if op>>i&1 == 1 {
			table[i] = limbMask
		}
	}
	return func(a, b uint32) uint32 {
		return table[0]&^a&^b | table[1]&^a&b | table[2]&a&^b | table[3]&a&b
	}
}

// Length returns the number of bits of x in two's complement, without the sign.
func (x Int) Length() int {
	return width(x.magnitude())
}

// Count returns the number of bits of x that differ from its sign.
func (x Int) Count() int {
	n := 0
	for _, limb := range x.magnitude() {
		n += bits.OnesCount32(limb)
	}
	return n
}

// Bit reports whether a bit of x is set.
func (x Int) Bit(i int) bool {
	if i < 0 {
		return false
	}
	limbs := x.magnitude()
	if i/limbBits >= len(limbs) {
		return x.negative
	}
	return limbs[i/limbBits]>>(i%limbBits)&1 == 1 != x.negative
}

// checkField returns the error of the size and the position of a field.
func checkField(size, position int) api.Errno {
	if size < 0 || size > api.MaxBits || position < 0 || position > api.MaxBits {
		return api.ErrArg
	}
	return api.OK
}

// Field returns some bits of x as a number.
func (x Int) Field(size, position int) (Int, api.Errno) {
	if e := checkField(size, position); e != api.OK {
		return Int{}, e
	}
	limbs := x.shifted(-position).complement(size/limbBits + 1)
	limbs[size/limbBits] &= 1<<(size%limbBits) - 1
	return signed(false, limbs), api.OK
}

// Deposit returns x with some bits replaced.
func (x Int) Deposit(part Int, size, position int) (Int, api.Errno) {
	old, e := x.Field(size, position)
	if e != api.OK {
		return Int{}, e
	}
	fresh, e := part.Field(size, 0)
	if e != api.OK {
		return Int{}, e
	}
	// Only the bits in which both differ are turned over.
	const different = 6
	turned, e := old.Boole(different, fresh)
	if e != api.OK {
		return Int{}, e
	}
	return x.Boole(different, turned.shifted(position))
}
