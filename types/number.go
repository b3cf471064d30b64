package types

import (
	"slices"
	"strconv"
	"strings"

	"commonform/api"
	"commonform/float"
	"commonform/forms"
	"commonform/number"
)

// sure returns the result of a calculation that has no error: the numbers here are not too great.
func sure(x api.Form, _ api.Errno) api.Form {
	return x
}

func sum(x, y api.Form) api.Form {
	return sure(number.Add(x, y))
}

func difference(x, y api.Form) api.Form {
	return sure(number.Sub(x, y))
}

func compare(x, y api.Form) int {
	sign, _ := number.Cmp(x, y)
	return sign
}

// half returns n halves.
func half(n int) api.Form {
	return sure(number.Div(integerOf(n), integerOf(2)))
}

// floor returns the greatest integer that is not above a number.
func floor(x api.Form) api.Form {
	q, _, _ := number.Quotient(number.Floor, x, integerOf(1))
	return q
}

// ascending returns rational numbers in order, each one once.
func ascending(l []api.Form) []api.Form {
	slices.SortFunc(l, compare)
	return slices.CompactFunc(l, forms.Equal)
}

// addValue adds the value of an object that is a real number.
func (m *mentions) addValue(x api.Form) {
	if reals.has(kindOf(x)) {
		m.values = append(m.values, sure(number.Rational(x)))
	}
}

// cuts returns the integers, ascending, that are the least ones of those between which no type tells integers apart. (Those below the first one are not told apart either.)
func (m *mentions) cuts() []api.Form {
	l := []api.Form{integerOf(0)}
	for _, v := range m.values {
		l = append(l, floor(v), sum(floor(v), integerOf(1)))
	}
	return ascending(l)
}

func (m *mentions) integers() []api.Form {
	l := m.cuts()
	return append(l, difference(l[0], integerOf(1)))
}

// ratios returns the values that are ratios, one between any two values, and one beyond them on each side.
func (m *mentions) ratios() []api.Form {
	if len(m.values) == 0 {
		return []api.Form{half(1)}
	}
	var l []api.Form
	for i, v := range m.values {
		if v.Kind == api.FormRatio {
			l = append(l, v)
		}
		if i > 0 {
			l = append(l, ratioBetween(m.values[i-1], v))
		}
	}
	last := m.values[len(m.values)-1]
	return append(l, difference(floor(m.values[0]), half(1)), sum(floor(last), half(3)))
}

// ratioBetween returns a number between two others that is no integer.
func ratioBetween(low, high api.Form) api.Form {
	gap := difference(high, low)
	x := sum(low, sure(number.Mul(gap, half(1))))
	if x.Kind == api.FormInt {
		// A quarter of the gap, or of 1, leads on to none, and not as far as the high number.
		part := gap
		if compare(gap, integerOf(1)) > 0 {
			part = integerOf(1)
		}
		x = sum(x, sure(number.Div(part, integerOf(4))))
	}
	return x
}

// A layout is how the floats of a kind of forms are written.
type layout struct {
	format   float.Format
	digits   int
	greatest string
}

func layoutOf(kind int) layout {
	if kind == api.FormSingle {
		return layout{float.Single, 8, "7f7fffff"}
	}
	return layout{float.Double, 16, "7fefffffffffffff"}
}

func floatForm(kind int, bits uint64) api.Form {
	text := strconv.FormatUint(bits, 16)
	return api.Form{Kind: kind, Text: strings.Repeat("0", layoutOf(kind).digits-len(text)) + text}
}

// floats returns the floats of a kind around all values: between two of them, if there are any there, the least one; both zeros, and the last ones on both sides.
func (m *mentions) floats(kind int) []api.Form {
	last := api.Form{Kind: kind, Text: layoutOf(kind).greatest}
	zero := floatForm(kind, 0)
	l := []api.Form{zero, sure(number.Neg(zero)), last, sure(number.Neg(last))}
	for _, v := range m.values {
		near, e := number.Float(v, kind)
		if e != api.OK {
			continue // beyond the last ones
		}
		l = append(l, near)
		// The least float above the value is this one, or the next one.
		bits, _ := strconv.ParseUint(near.Text, 16, wordBits)
		next, e := float.Next(layoutOf(kind).format, bits, true)
		if e == api.OK {
			l = append(l, floatForm(kind, next))
		}
	}
	return l
}
