package number

import (
	"iter"
	"math/bits"

	"commonform/api"
	"commonform/float"
	"commonform/rational"
)

// A work is a calculation of several steps. It keeps the first error; behind it the results of the steps mean nothing.
type work struct {
	e api.Errno
}

func (w *work) fail(e api.Errno) {
	if w.e == api.OK {
		w.e = e
	}
}

// need fails with the error unless a condition holds.
func (w *work) need(holds bool, e api.Errno) {
	if !holds {
		w.fail(e)
	}
}

// read returns the number of a form.
func (w *work) read(x api.Form) number {
	n, e := parse(x)
	w.fail(e)
	return n
}

// done returns the form of the result.
func (w *work) done(x number) (api.Form, api.Errno) {
	if w.e != api.OK {
		return api.Form{}, w.e
	}
	return x.form()
}

// as returns a real number as one of a kind that is not less in the order of contagion, or of any kind of floats.
func (w *work) as(kind int, x scalar) scalar {
	if w.e != api.OK || kind == x.kind {
		return x
	}
	var size uint64
	var e api.Errno
	if x.kind == exact {
		size, e = float.Nearest(format(kind), x.value)
	} else {
		size, e = float.Convert(format(x.kind), x.bits, format(kind))
	}
	w.fail(e)
	return floating(kind, size)
}

// common returns two real numbers behind contagion.
func (w *work) common(x, y scalar) (scalar, scalar) {
	kind := max(x.kind, y.kind)
	x = w.as(kind, x)
	y = w.as(kind, y)
	return x, y
}

// An operation has a function of two real numbers for each common kind.
type operation [kinds]func(x, y scalar) (scalar, api.Errno)

type floatFunction = func(f float.Format, x, y uint64) (uint64, api.Errno)

func operationOf(exactly func(x, y rational.Ratio) (rational.Ratio, api.Errno), nearly floatFunction) operation {
	var o operation
	o[exact] = func(x, y scalar) (scalar, api.Errno) {
		z, e := exactly(x.value, y.value)
		return ratio(z), e
	}
	for kind := single; kind <= double; kind++ {
		o[kind] = func(x, y scalar) (scalar, api.Errno) {
			z, e := nearly(format(kind), x.bits, y.bits)
			return floating(kind, z), e
		}
	}
	return o
}

// always returns an exact function that has no errors as one that might.
func always(f func(x, y rational.Ratio) rational.Ratio) func(x, y rational.Ratio) (rational.Ratio, api.Errno) {
	return func(x, y rational.Ratio) (rational.Ratio, api.Errno) {
		return f(x, y), api.OK
	}
}

// apply returns the result of an operation behind contagion.
func (w *work) apply(o operation, x, y scalar) scalar {
	x, y = w.common(x, y)
	if w.e != api.OK {
		return scalar{}
	}
	z, e := o[x.kind](x, y)
	w.fail(e)
	return z
}

func (w *work) add(x, y scalar) scalar {
	return w.apply(operationOf(always(rational.Ratio.Add), float.Add), x, y)
}

func (w *work) sub(x, y scalar) scalar {
	return w.apply(operationOf(always(rational.Ratio.Sub), float.Sub), x, y)
}

func (w *work) mul(x, y scalar) scalar {
	return w.apply(operationOf(always(rational.Ratio.Mul), float.Mul), x, y)
}

func (w *work) div(x, y scalar) scalar {
	return w.apply(operationOf(rational.Ratio.Div, float.Div), x, y)
}

func (w *work) neg(x scalar) scalar {
	if x.kind == exact {
		return ratio(x.value.Neg())
	}
	size, e := float.Neg(format(x.kind), x.bits)
	w.fail(e)
	return floating(x.kind, size)
}

// pair returns the complex number with two parts, or the first one alone.
func (w *work) pair(a, b scalar) number {
	a, b = w.common(a, b)
	if b.kind == exact && b.sign() == 0 {
		return alone(a)
	}
	return number{[2]scalar{a, b}, true}
}

// each returns the number whose parts a step makes of those of two numbers.
func (w *work) each(step func(w *work, a, b scalar) scalar, x, y number) number {
	re := step(w, x.parts[0], y.parts[0])
	if !x.isComplex && !y.isComplex {
		return alone(re)
	}
	return w.pair(re, step(w, x.parts[1], y.parts[1]))
}

// product returns the product of two numbers.
func (w *work) product(x, y number) number {
	a, b, c, d := x.parts[0], x.parts[1], y.parts[0], y.parts[1]
	if !x.isComplex && !y.isComplex {
		return alone(w.mul(a, c))
	}
	re := w.sub(w.mul(a, c), w.mul(b, d))
	im := w.add(w.mul(a, d), w.mul(b, c))
	return w.pair(re, im)
}

// quotient returns the quotient of two numbers.
func (w *work) quotient(x, y number) number {
	a, b, c, d := x.parts[0], x.parts[1], y.parts[0], y.parts[1]
	if !x.isComplex && !y.isComplex {
		return alone(w.div(a, c))
	}
	n := w.add(w.mul(c, c), w.mul(d, d))
	re := w.div(w.add(w.mul(a, c), w.mul(b, d)), n)
	im := w.div(w.sub(w.mul(b, c), w.mul(a, d)), n)
	return w.pair(re, im)
}

// binaryDigits yields the binary digits of a number above 0 behind the first one.
func binaryDigits(n int) iter.Seq[int] {
	return func(yield func(int) bool) {
		for i := bits.Len(uint(n)) - 2; i >= 0; i-- {
			if !yield(n >> i & 1) {
				return
			}
		}
	}
}

// power returns the product of n numbers x, for an n above 0.
func (w *work) power(x number, n int) number {
	z := x
	for digit := range binaryDigits(n) {
		z = w.limited(w.product(z, z))
		if digit == 1 {
			z = w.limited(w.product(z, x))
		}
	}
	return z
}

// limited fails if a number has an integer of more than MaxBits. (It goes on with 0, so that nothing greater is calculated.)
func (w *work) limited(x number) number {
	for _, part := range x.parts {
		w.need(part.value.Numerator().Length() <= api.MaxBits, api.ErrLarge)
		w.need(part.value.Denominator().Length() <= api.MaxBits, api.ErrLarge)
	}
	if w.e != api.OK {
		return alone(whole(0))
	}
	return x
}
