package float

import (
	"commonform/api"
	"commonform/integer"
)

// Neg returns a float with the opposite sign.
func Neg(f Format, x uint64) (uint64, api.Errno) {
	if e := check(f, x); e != api.OK {
		return 0, e
	}
	return x ^ f.signBit(), api.OK
}

// Add returns the sum of two floats.
func Add(f Format, x, y uint64) (uint64, api.Errno) {
	if e := check(f, x, y); e != api.OK {
		return 0, e
	}
	sum := f.value(x).Add(f.value(y))
	if sum.Sign() == 0 {
		return x & y & f.signBit(), api.OK
	}
	return Nearest(f, sum)
}

// Sub returns the difference of two floats.
func Sub(f Format, x, y uint64) (uint64, api.Errno) {
	if e := check(f, x, y); e != api.OK {
		return 0, e
	}
	return Add(f, x, y^f.signBit())
}

// Mul returns the product of two floats.
func Mul(f Format, x, y uint64) (uint64, api.Errno) {
	if e := check(f, x, y); e != api.OK {
		return 0, e
	}
	if f.size(x) == 0 || f.size(y) == 0 {
		return (x ^ y) & f.signBit(), api.OK
	}
	return Nearest(f, f.value(x).Mul(f.value(y)))
}

// Div returns the quotient of two floats.
func Div(f Format, x, y uint64) (uint64, api.Errno) {
	if e := check(f, x, y); e != api.OK {
		return 0, e
	}
	quotient, e := f.value(x).Div(f.value(y))
	switch {
	case e != api.OK:
		return 0, e
	case quotient.Sign() == 0:
		return (x ^ y) & f.signBit(), api.OK
	}
	return Nearest(f, quotient)
}

// Root returns the square root of a float.
func Root(f Format, x uint64) (uint64, api.Errno) {
	if e := check(f, x); e != api.OK {
		return 0, e
	}
	switch {
	case f.size(x) == 0:
		return x, api.OK
	case x&f.signBit() != 0:
		return 0, api.ErrArg
	}
	units, exponent := f.split(x)
	// With so many digits, and an even exponent, the integer root has more digits than a float.
	shift := 2*f.precision() + 4 + exponent&1
	square := integer.New(int64(units)).Mul(powerOfTwo(shift))
	root, _ := square.Root()
	twice := root.Add(root)
	if root.Mul(root).Cmp(square) != 0 {
		// Somewhere between two integers: the half stands for it, since nothing is rounded there.
		twice = twice.Add(integer.New(1))
	}
	return Nearest(f, scaled(twice, (exponent-shift)/2-1))
}

// Compare compares two floats, exactly.
func Compare(f Format, x uint64, g Format, y uint64) (int, api.Errno) {
	if e := check(f, x); e != api.OK {
		return 0, e
	}
	if e := check(g, y); e != api.OK {
		return 0, e
	}
	return f.value(x).Cmp(g.value(y)), api.OK
}
