package number

import (
	"slices"

	"commonform/api"
)

// Equals reports whether x and y have the same value.
func Equals(x, y api.Form) (bool, api.Errno) {
	w := &work{}
	a := w.read(x)
	b := w.read(y)
	if w.e != api.OK {
		return false, w.e
	}
	for i, part := range a.parts {
		if order(part, b.parts[i]) != 0 {
			return false, api.OK
		}
	}
	return true, api.OK
}

// order compares the values of two real numbers.
func order(x, y scalar) int {
	return x.exactValue().Cmp(y.exactValue())
}

// Eql reports whether x and y are the same number of the same kind.
func Eql(x, y api.Form) (bool, api.Errno) {
	w := &work{}
	w.read(x)
	w.read(y)
	if w.e != api.OK {
		return false, w.e
	}
	return sameForm(x, y), api.OK
}

func sameForm(x, y api.Form) bool {
	return x.Kind == y.Kind && x.Text == y.Text && slices.EqualFunc(x.Kids, y.Kids, sameForm)
}

// Cmp compares two real numbers.
func Cmp(x, y api.Form) (int, api.Errno) {
	w := &work{}
	a := w.read(x)
	b := w.read(y)
	w.need(!a.isComplex && !b.isComplex, api.ErrType)
	if w.e != api.OK {
		return 0, w.e
	}
	return order(a.parts[0], b.parts[0]), api.OK
}

// Greatest returns the first one of the greatest real numbers.
func Greatest(l []api.Form) (api.Form, api.Errno) {
	w := &work{}
	w.need(len(l) > 0, api.ErrNone)
	var greatest scalar
	for i, x := range l {
		a := w.read(x)
		w.need(!a.isComplex, api.ErrType)
		if w.e != api.OK {
			break
		}
		if i == 0 || order(a.parts[0], greatest) > 0 {
			greatest = a.parts[0]
		}
	}
	return w.done(alone(greatest))
}
