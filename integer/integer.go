// Package integer has integers of any size, as Common Lisp has them: arithmetic, the bits of two's complement with an infinite sign, fields of bits, and digits in any radix. See shared/doc/02-integer.md.
package integer

import "commonform/api"

// Int is an integer of any size. The zero value is 0.
type Int struct {
	negative bool
	limbs    []uint32 // no zeros at the top, and no other Int has the same memory
}

// signed takes over the limbs, which nobody else may keep.
func signed(negative bool, limbs []uint32) Int {
	limbs = trim(limbs)
	if len(limbs) == 0 {
		return Int{}
	}
	return Int{negative, limbs}
}

// New returns n.
func New(n int64) Int {
	size := uint64(n)
	if n < 0 {
		size = -size
	}
	return signed(n < 0, word(size))
}

// Make returns the integer with a sign and the limbs of its absolute value.
func Make(negative bool, limbs []uint32) Int {
	return signed(negative, copied(limbs))
}

// Limbs returns the sign and the limbs of the absolute value.
func (x Int) Limbs() (negative bool, limbs []uint32) {
	return x.negative, copied(x.limbs)
}

// Int64 returns x, if it fits.
func (x Int) Int64() (int64, bool) {
	if len(x.limbs) > 2 {
		return 0, false
	}
	size := low(x.limbs)
	switch {
	case x.negative && size <= 1<<63:
		return int64(-size), true
	case !x.negative && size < 1<<63:
		return int64(size), true
	}
	return 0, false
}

// Sign returns -1, 0 or 1.
func (x Int) Sign() int {
	switch {
	case len(x.limbs) == 0:
		return 0
	case x.negative:
		return -1
	}
	return 1
}

// Cmp compares x and y.
func (x Int) Cmp(y Int) int {
	switch {
	case x.negative && !y.negative:
		return -1
	case !x.negative && y.negative:
		return 1
	case x.negative:
		return compare(y.limbs, x.limbs)
	}
	return compare(x.limbs, y.limbs)
}

// Odd reports whether x is odd.
func (x Int) Odd() bool {
	return len(x.limbs) > 0 && x.limbs[0]&1 == 1
}

// Neg returns -x.
func (x Int) Neg() Int {
	return signed(!x.negative, copied(x.limbs))
}

// Abs returns the absolute value of x.
func (x Int) Abs() Int {
	return signed(false, copied(x.limbs))
}

// Add returns x + y.
func (x Int) Add(y Int) Int {
	if x.negative == y.negative {
		return signed(x.negative, sum(x.limbs, y.limbs))
	}
	if compare(x.limbs, y.limbs) >= 0 {
		return signed(x.negative, difference(x.limbs, y.limbs))
	}
	return signed(y.negative, difference(y.limbs, x.limbs))
}

// Sub returns x - y.
func (x Int) Sub(y Int) Int {
	return x.Add(y.Neg())
}

// Mul returns the product of x and y.
func (x Int) Mul(y Int) Int {
	return signed(x.negative != y.negative, product(x.limbs, y.limbs))
}

// Divide returns the quotient of x and y, truncated, and the remainder.
func (x Int) Divide(y Int) (quotient, remainder Int, e api.Errno) {
	if y.Sign() == 0 {
		return Int{}, Int{}, api.ErrZero
	}
	q, r := divide(x.limbs, y.limbs)
	return signed(x.negative != y.negative, q), signed(x.negative, r), api.OK
}

// Gcd returns the greatest common divisor of x and y.
func (x Int) Gcd(y Int) Int {
	return signed(false, divisor(x.limbs, y.limbs))
}

// Power returns x to the power of n.
func (x Int) Power(n int) (Int, api.Errno) {
	if n < 0 {
		return Int{}, api.ErrArg
	}
	if compare(x.limbs, word(1)) <= 0 {
		return x.unitPower(n), api.OK
	}
	// A first look at the length keeps what is multiplied small.
	if least := width(x.limbs) - 1; n > 0 && least > api.MaxBits/n {
		return Int{}, api.ErrLarge
	}
	power := signed(x.negative && n&1 == 1, raised(x.limbs, n))
	if power.Length() > api.MaxBits {
		return Int{}, api.ErrLarge
	}
	return power, api.OK
}

// unitPower returns the power of -1, 0 or 1.
func (x Int) unitPower(n int) Int {
	if n == 0 || x.negative && n&1 == 0 {
		return New(1)
	}
	return signed(x.negative, copied(x.limbs))
}

// raised returns x to the power of n.
func raised(x []uint32, n int) []uint32 {
	power := word(1)
	for bit := width(word(uint64(n))) - 1; bit >= 0; bit-- {
		power = product(power, power)
		if n>>bit&1 == 1 {
			power = product(power, x)
		}
	}
	return power
}

// Root returns the square root of x, rounded down.
func (x Int) Root() (Int, api.Errno) {
	if x.negative {
		return Int{}, api.ErrArg
	}
	if x.Sign() == 0 {
		return Int{}, api.OK
	}
	// Newton's steps fall from any start that is not below the root.
	root := left(word(1), (width(x.limbs)+1)/2)
	for {
		q, _ := divide(x.limbs, root)
		next := right(sum(root, q), 1)
		if compare(next, root) >= 0 {
			return signed(false, root), api.OK
		}
		root = next
	}
}
