package number

import (
	"commonform/api"
	"commonform/float"
	"commonform/integer"
	"commonform/rational"
)

// Quotient returns x/y, rounded to an integer, and the remainder.
func Quotient(way int, x, y api.Form) (quotient, remainder api.Form, e api.Errno) {
	w := &work{}
	a := w.read(x)
	b := w.read(y)
	w.need(!a.isComplex && !b.isComplex, api.ErrType)
	if w.e != api.OK {
		return api.Form{}, api.Form{}, w.e
	}
	q, r, e := a.parts[0].exactValue().Quotient(way, b.parts[0].exactValue())
	w.fail(e)
	alike, _ := w.common(a.parts[0], b.parts[0])
	rest := w.as(alike.kind, ratio(r))
	quotient, e = w.done(alone(ratio(rational.Of(q))))
	if e != api.OK {
		return api.Form{}, api.Form{}, e
	}
	remainder, e = w.done(alone(rest))
	if e != api.OK {
		return api.Form{}, api.Form{}, e
	}
	return quotient, remainder, api.OK
}

// Complex returns the number with a real and an imaginary part.
func Complex(re, im api.Form) (api.Form, api.Errno) {
	return combined(re, im, func(w *work, a, b number) number {
		w.need(!a.isComplex && !b.isComplex, api.ErrType)
		return w.pair(a.parts[0], b.parts[0])
	})
}

// Real returns the real part of x.
func Real(x api.Form) (api.Form, api.Errno) {
	return changed(x, func(w *work, a number) number {
		return alone(a.parts[0])
	})
}

// Imaginary returns the imaginary part of x.
func Imaginary(x api.Form) (api.Form, api.Errno) {
	return changed(x, func(w *work, a number) number {
		return alone(w.as(a.parts[0].kind, a.parts[1]))
	})
}

// Conjugate returns the conjugate of x.
func Conjugate(x api.Form) (api.Form, api.Errno) {
	return changed(x, func(w *work, a number) number {
		a.parts[1] = w.neg(a.parts[1])
		return a
	})
}

// Numerator returns the numerator of a rational x.
func Numerator(x api.Form) (api.Form, api.Errno) {
	return partOfRatio(x, rational.Ratio.Numerator)
}

// Denominator returns the denominator of a rational x.
func Denominator(x api.Form) (api.Form, api.Errno) {
	return partOfRatio(x, rational.Ratio.Denominator)
}

func partOfRatio(x api.Form, part func(rational.Ratio) integer.Int) (api.Form, api.Errno) {
	return changedReal(x, func(w *work, a scalar) scalar {
		w.need(a.kind == exact, api.ErrType)
		return ratio(rational.Of(part(a.value)))
	})
}

// Rational returns the exact value of a real x.
func Rational(x api.Form) (api.Form, api.Errno) {
	return changedReal(x, func(w *work, a scalar) scalar {
		return ratio(a.exactValue())
	})
}

// Rationalize returns the simplest rational number that is read as the float x.
func Rationalize(x api.Form) (api.Form, api.Errno) {
	return changedReal(x, func(w *work, a scalar) scalar {
		if a.kind == exact || a.sign() == 0 {
			return ratio(a.exactValue())
		}
		low, high := roundingBounds(a)
		simplest, e := rational.Simplest(low, high)
		w.fail(e)
		return ratio(simplest)
	})
}

// roundingBounds returns the least and the greatest of the fractions to which a float other than 0 is the nearest one, or bounds between which the simplest one of them is the same.
func roundingBounds(x scalar) (low, high rational.Ratio) {
	value := x.exactValue()
	half, _ := rational.New(integer.New(1), integer.New(2))
	below, some := x.distance(false)
	above, more := x.distance(true)
	switch { // behind the greatest float there would be one as far away as on the other side
	case !some:
		below = above
	case !more:
		above = below
	}
	low, high = value.Sub(below.Mul(half)), value.Add(above.Mul(half))
	significand, _, _, _ := float.Decode(format(x.kind), x.bits)
	// An odd float does not have the bounds themselves. These matter only if they are integers: otherwise the float's denominator is less than theirs.
	if one := rational.Of(integer.New(1)); significand.Odd() && low.Whole() && high.Whole() {
		low, high = low.Add(one), high.Sub(one)
	}
	return low, high
}

// distance returns how far the next float is, and whether there is one.
func (x scalar) distance(up bool) (rational.Ratio, bool) {
	next, e := float.Next(format(x.kind), x.bits, up)
	if e != api.OK {
		return rational.Ratio{}, false
	}
	return floating(x.kind, next).exactValue().Sub(x.exactValue()).Abs(), true
}

// Float returns x as a float of a kind.
func Float(x api.Form, kind int) (api.Form, api.Errno) {
	return changed(x, func(w *work, a number) number {
		wanted := single
		switch kind {
		case api.FormSingle:
		case api.FormDouble:
			wanted = double
		default:
			w.fail(api.ErrArg)
			return number{}
		}
		a.parts[0] = w.as(wanted, a.parts[0])
		if a.isComplex {
			a.parts[1] = w.as(wanted, a.parts[1])
		}
		return a
	})
}
