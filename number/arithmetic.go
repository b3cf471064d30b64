package number

import (
	"commonform/api"
	"commonform/float"
	"commonform/integer"
	"commonform/rational"
)

// combined returns what a step of two numbers makes.
func combined(x, y api.Form, step func(w *work, a, b number) number) (api.Form, api.Errno) {
	w := &work{}
	a := w.read(x)
	b := w.read(y)
	if w.e != api.OK {
		return api.Form{}, w.e
	}
	return w.done(step(w, a, b))
}

// changed returns what a step of one number makes.
func changed(x api.Form, step func(w *work, a number) number) (api.Form, api.Errno) {
	w := &work{}
	a := w.read(x)
	if w.e != api.OK {
		return api.Form{}, w.e
	}
	return w.done(step(w, a))
}

// changedReal returns what a step of one real number makes.
func changedReal(x api.Form, step func(w *work, a scalar) scalar) (api.Form, api.Errno) {
	return changed(x, func(w *work, a number) number {
		w.need(!a.isComplex, api.ErrType)
		if w.e != api.OK {
			return number{}
		}
		return alone(step(w, a.parts[0]))
	})
}

// Add returns x + y.
func Add(x, y api.Form) (api.Form, api.Errno) {
	return combined(x, y, func(w *work, a, b number) number {
		return w.each((*work).add, a, b)
	})
}

// Sub returns x - y.
func Sub(x, y api.Form) (api.Form, api.Errno) {
	return combined(x, y, func(w *work, a, b number) number {
		return w.each((*work).sub, a, b)
	})
}

// Mul returns the product of x and y.
func Mul(x, y api.Form) (api.Form, api.Errno) {
	return combined(x, y, (*work).product)
}

// Div returns x/y.
func Div(x, y api.Form) (api.Form, api.Errno) {
	return combined(x, y, (*work).quotient)
}

// Neg returns -x.
func Neg(x api.Form) (api.Form, api.Errno) {
	return changed(x, func(w *work, a number) number {
		for i, part := range a.parts {
			a.parts[i] = w.neg(part)
		}
		return a
	})
}

// Power returns x to the power of n.
func Power(x api.Form, n int) (api.Form, api.Errno) {
	const greatest = 4096
	return changed(x, func(w *work, a number) number {
		one := alone(whole(1))
		switch {
		case n < -greatest || n > greatest:
			w.fail(api.ErrArg)
			return number{}
		case n == 0:
			return one
		case n < 0:
			return w.quotient(one, w.power(a, -n))
		}
		return w.power(a, n)
	})
}

// Root returns the square root of x.
func Root(x api.Form) (api.Form, api.Errno) {
	return changed(x, func(w *work, a number) number {
		w.need(!a.isComplex, api.ErrType)
		if w.e != api.OK {
			return number{}
		}
		if a.parts[0].sign() >= 0 {
			return alone(w.root(a.parts[0]))
		}
		im := w.root(w.neg(a.parts[0]))
		return w.pair(w.as(im.kind, whole(0)), im)
	})
}

// root returns the square root of a real number that is not below 0.
func (w *work) root(x scalar) scalar {
	if x.kind != exact {
		bits, e := float.Root(format(x.kind), x.bits)
		w.fail(e)
		return floating(x.kind, bits)
	}
	if r, e := x.value.Root(); e == api.OK {
		return ratio(r)
	}
	bits, e := nearestRoot(x.value)
	w.fail(e)
	return floating(single, bits)
}

// nearestRoot returns the single float nearest to the root of a fraction above 0, which is no fraction itself.
func nearestRoot(x rational.Ratio) (uint64, api.Errno) {
	// From here on the root is beyond all floats, or below half of the least one.
	const far = 400
	const digits = 64
	length := x.Numerator().Length() - x.Denominator().Length()
	switch {
	case length > far:
		return 0, api.ErrOver
	case length < -far:
		return 0, api.OK
	}
	// The integer root of x times 2^(2 shift) has more digits than any float, and the root lies behind it, where nothing is rounded: the half stands for it.
	shift := digits - length/2
	units, _, _ := x.Mul(powerOfTwo(2*shift)).Quotient(rational.Floor, rational.Of(integer.New(1)))
	root, _ := units.Root()
	half := root.Add(root).Add(integer.New(1))
	return float.Nearest(float.Single, rational.Of(half).Mul(powerOfTwo(-shift-1)))
}

// powerOfTwo returns 2 to the power of n, for an n that is far from MaxBits.
func powerOfTwo(n int) rational.Ratio {
	p, _ := rational.Of(integer.New(2)).Power(n)
	return p
}

// Abs returns the absolute value of a real x.
func Abs(x api.Form) (api.Form, api.Errno) {
	return changedReal(x, func(w *work, a scalar) scalar {
		if a.sign() < 0 || a.kind != exact && a.sign() == 0 && a.bits != 0 {
			return w.neg(a)
		}
		return a
	})
}

// Signum returns the sign of a real x as a number of its kind.
func Signum(x api.Form) (api.Form, api.Errno) {
	return changedReal(x, func(w *work, a scalar) scalar {
		if a.kind != exact && a.sign() == 0 {
			return a
		}
		return w.as(a.kind, whole(int64(a.sign())))
	})
}
