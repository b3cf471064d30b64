// Package float has the floating-point numbers of IEEE 754 in two formats, by their bits: exact values, correctly rounded arithmetic, and decimal texts that are read and printed without any loss. See shared/doc/04-float.md.
package float

import (
	"iter"

	"commonform/api"
	"commonform/integer"
	"commonform/rational"
)

// Format is a format of floats.
type Format int

// The formats.
const (
	Single Format = iota
	Double
	formats
)

// The widths of the formats in bits.
var (
	totalWidths    = [formats]int{Single: 32, Double: 64}
	exponentWidths = [formats]int{Single: 8, Double: 11}
)

// precision returns the number of binary digits of a significand.
func (f Format) precision() int {
	return totalWidths[f] - exponentWidths[f]
}

func (f Format) bias() int {
	return 1<<(exponentWidths[f]-1) - 1
}

// least returns the least exponent of a last bit.
func (f Format) least() int {
	return 2 - f.bias() - f.precision()
}

func (f Format) signBit() uint64 {
	return 1 << (totalWidths[f] - 1)
}

// infinity returns the bits of the infinity above 0: those of all floats above 0 are below it.
func (f Format) infinity() uint64 {
	return f.signBit() - 1<<(f.precision()-1)
}

// size returns the bits without the sign, which stand in the order of the absolute values.
func (f Format) size(x uint64) uint64 {
	return x &^ f.signBit()
}

// check returns the error of a format, or of floats of it.
func check(f Format, floats ...uint64) api.Errno {
	if f < 0 || f >= formats {
		return api.ErrArg
	}
	for _, x := range floats {
		if f.size(x) >= f.infinity() {
			return api.ErrArg
		}
	}
	return api.OK
}

// split returns the significand and the exponent of a float.
func (f Format) split(x uint64) (significand uint64, exponent int) {
	shift := f.precision() - 1
	field, rest := f.size(x)>>shift, f.size(x)&(1<<shift-1)
	if field == 0 {
		return rest, f.least()
	}
	return rest | 1<<shift, f.least() + int(field) - 1
}

// value returns the exact value of a float.
func (f Format) value(x uint64) rational.Ratio {
	significand, exponent := f.split(x)
	v := scaled(integer.New(int64(significand)), exponent)
	if x&f.signBit() != 0 {
		return v.Neg()
	}
	return v
}

// powerOfTwo returns 2 to the power of n, for n from 0 to MaxBits - 1.
func powerOfTwo(n int) integer.Int {
	p, _ := integer.New(1).Shift(n)
	return p
}

// scaled returns n times 2 to the power of an exponent.
func scaled(n integer.Int, exponent int) rational.Ratio {
	if exponent >= 0 {
		return rational.Of(n.Mul(powerOfTwo(exponent)))
	}
	x, _ := rational.New(n, powerOfTwo(-exponent))
	return x
}

// nearest returns the bits of the float nearest to n/d, for an n that is not below 0 and a d above 0, in any terms.
func (f Format) nearest(n, d integer.Int) (uint64, api.Errno) {
	top := n.Length() - d.Length() // n/d is above half of 2^top, and below twice this
	switch {
	case n.Sign() == 0 || top < f.least()-1:
		return 0, api.OK
	case top > f.bias()+1:
		return 0, api.ErrOver
	}
	exponent := max(top-f.precision(), f.least())
	q, down := rounded(n, d, exponent)
	if down.Length() > f.precision() {
		exponent++
		q, _ = rounded(n, d, exponent)
	}
	// A significand that was rounded up to one more digit is carried into the exponent.
	units, _ := q.Int64()
	bits := uint64(exponent-f.least())<<(f.precision()-1) + uint64(units)
	if bits >= f.infinity() {
		return 0, api.ErrOver
	}
	return bits, api.OK
}

// rounded returns n/d in units of 2^exponent, rounded to the nearest integer (to the even one of two), and rounded down.
func rounded(n, d integer.Int, exponent int) (near, down integer.Int) {
	if exponent < 0 {
		n = n.Mul(powerOfTwo(-exponent))
	} else {
		d = d.Mul(powerOfTwo(exponent))
	}
	down, rest, _ := n.Divide(d)
	half := rest.Add(rest).Cmp(d)
	if half > 0 || half == 0 && down.Odd() {
		return down.Add(integer.New(1)), down
	}
	return down, down
}

// signed returns the bits of a float with or without the sign bit.
func (f Format) signed(size uint64, negative bool) uint64 {
	if negative {
		return size | f.signBit()
	}
	return size
}

// Value returns the exact value of a float.
func Value(f Format, x uint64) (rational.Ratio, api.Errno) {
	if e := check(f, x); e != api.OK {
		return rational.Ratio{}, e
	}
	return f.value(x), api.OK
}

// Nearest returns the float that is nearest to a fraction.
func Nearest(f Format, x rational.Ratio) (uint64, api.Errno) {
	if e := check(f); e != api.OK {
		return 0, e
	}
	size, e := f.nearest(x.Numerator().Abs(), x.Denominator())
	if e != api.OK {
		return 0, e
	}
	return f.signed(size, x.Sign() < 0), api.OK
}

// Convert returns the float of another format that is nearest to a float.
func Convert(f Format, x uint64, to Format) (uint64, api.Errno) {
	if e := check(f, x); e != api.OK {
		return 0, e
	}
	if e := check(to); e != api.OK {
		return 0, e
	}
	if f.size(x) == 0 {
		return to.signed(0, x != 0), api.OK
	}
	return Nearest(to, f.value(x))
}

// Decode returns the significand, the exponent and the sign of a float.
func Decode(f Format, x uint64) (significand integer.Int, exponent, sign int, e api.Errno) {
	if e := check(f, x); e != api.OK {
		return integer.Int{}, 0, 0, e
	}
	units, exponent := f.split(x)
	sign = 1
	if x&f.signBit() != 0 {
		sign = -1
	}
	return integer.New(int64(units)), exponent, sign, api.OK
}

// Precision returns the number of bits of the significand of a float.
func Precision(f Format, x uint64) (int, api.Errno) {
	if e := check(f, x); e != api.OK {
		return 0, e
	}
	units, _ := f.split(x)
	return integer.New(int64(units)).Length(), api.OK
}

// Scale returns a float times 2 to the power of n.
func Scale(f Format, x uint64, n int) (uint64, api.Errno) {
	if e := check(f, x); e != api.OK {
		return 0, e
	}
	if f.size(x) == 0 {
		return x, api.OK
	}
	// Beyond this all floats become 0, or too great, alike.
	const far = 5000
	n = min(max(n, -far), far)
	return Nearest(f, f.value(x).Mul(scaled(integer.New(1), n)))
}

// neighbours yields the next less and the next greater float, as far as there are such ones, and whether it is the greater one.
func (f Format) neighbours(x uint64) iter.Seq2[bool, uint64] {
	return func(yield func(bool, uint64) bool) {
		rank := int64(f.size(x))
		if x&f.signBit() != 0 {
			rank = -rank
		}
		for _, step := range [2]int64{-1, 1} {
			size, negative := uint64(rank+step), rank+step < 0
			if negative {
				size = -size
			}
			if size < f.infinity() && !yield(step > 0, f.signed(size, negative)) {
				return
			}
		}
	}
}

// Next returns the next greater, or the next less float.
func Next(f Format, x uint64, up bool) (uint64, api.Errno) {
	if e := check(f, x); e != api.OK {
		return 0, e
	}
	for greater, neighbour := range f.neighbours(x) {
		if greater == up {
			return neighbour, api.OK
		}
	}
	return 0, api.ErrOver
}
