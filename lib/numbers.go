package lib

import (
	"strconv"

	"commonform/api"
	"commonform/heap"
	"commonform/number"
)

const (
	mostShift = 65536 // binary digits
	mostPower = 4096

	opAnd = 8
	opOr  = 14
	opXor = 6
)

// integer returns the form of an integer.
func integer(n int64) api.Form {
	return api.Form{Kind: api.FormInt, Text: strconv.FormatInt(n, 10)}
}

func isFloat(kind int) bool { return kind == api.FormSingle || kind == api.FormDouble }

// formsOf returns the forms of numbers.
func (w *World) formsOf(a []heap.Word) []api.Form {
	var l []api.Form
	for _, x := range a {
		f, _ := w.number(x)
		l = append(l, f)
	}
	return l
}

// numeral makes the object of a number's form: a fixnum, if there is one.
func (w *World) numeral(f api.Form) heap.Word {
	if x, ok := smallInteger(f); ok {
		return x
	}
	if f.Kind == api.FormComplex {
		return w.make(heap.KindComplex, w.numeral(f.Kids[0]), w.numeral(f.Kids[1]))
	}
	return w.raw(f.Kind, f.Text)
}

// checkNumber fails with the fault for an error of layer 5.
func (w *World) checkNumber(e api.Errno, a []heap.Word) {
	switch e {
	case api.OK:
		return
	case api.ErrZero:
		w.fail("DIVISION-BY-ZERO")
	case api.ErrForm:
		// What has the kind of a number and is none: infinity, or a fraction that is not in lowest terms.
		for i, f := range w.formsOf(a) {
			if number.Check(f) == api.ErrForm {
				w.failType(a[i], "NUMBER")
			}
		}
	}
	w.fail("ARITHMETIC-ERROR")
}

// A binary is a function of layer 5 with two numbers.
type binary func(x, y api.Form) (api.Form, api.Errno)

// fold goes through numbers from left to right.
func (w *World) fold(f binary, first api.Form, rest []api.Form, a []heap.Word) heap.Word {
	for _, x := range rest {
		var e api.Errno
		first, e = f(first, x)
		w.checkNumber(e, a)
	}
	return w.numeral(first)
}

// sum makes the body of a function that begins with a number.
func (w *World) sum(f binary, first int64) body {
	return one(func(a []heap.Word) heap.Word { return w.fold(f, integer(first), w.formsOf(a), a) })
}

// difference makes the body of a function that begins with its first argument; alone, it becomes the second one, behind a number.
func (w *World) difference(f binary, alone func(x api.Form) (api.Form, api.Errno)) body {
	return one(func(a []heap.Word) heap.Word {
		l := w.formsOf(a)
		if len(l) > 1 {
			return w.fold(f, l[0], l[1:], a)
		}
		return w.single(alone, a)
	})
}

// single returns what a function of layer 5 tells of the first argument.
func (w *World) single(f func(x api.Form) (api.Form, api.Errno), a []heap.Word) heap.Word {
	x, e := f(w.formsOf(a[:1])[0])
	w.checkNumber(e, a)
	return w.numeral(x)
}

func (w *World) ofOne(f func(x api.Form) (api.Form, api.Errno)) body {
	return one(func(a []heap.Word) heap.Word { return w.single(f, a) })
}

func (w *World) onNumbers() map[string]body {
	return map[string]body{
		"+":   w.sum(number.Add, 0),
		"*":   w.sum(number.Mul, 1),
		"-":   w.difference(number.Sub, number.Neg),
		"/":   w.difference(number.Div, func(x api.Form) (api.Form, api.Errno) { return number.Div(integer(1), x) }),
		"MAX": w.extreme(1),
		"MIN": w.extreme(-1),
		"ABS": w.ofOne(number.Abs),
	}
}

// extreme makes the body of a function that returns the first argument that is greatest, or least, by the sign.
func (w *World) extreme(sign int) body {
	return one(func(a []heap.Word) heap.Word {
		l := w.formsOf(a)
		best := 0
		for i := range l {
			order, e := number.Cmp(l[i], l[best])
			w.checkNumber(e, a)
			if order == sign {
				best = i
			}
		}
		return a[best]
	})
}

// inOrder makes the body of a function that tells whether each argument and the next one stand in an order.
func (w *World) inOrder(fits func(order int) bool) body {
	return w.predicate(func(a []heap.Word) bool {
		l := w.formsOf(a)
		for i := 1; i < len(l); i++ {
			order, e := number.Cmp(l[i-1], l[i])
			w.checkNumber(e, a)
			if !fits(order) {
				return false
			}
		}
		return true
	})
}

// equals reports whether two numbers have one value.
func (w *World) equals(x, y api.Form, a []heap.Word) bool {
	is, e := number.Equals(x, y)
	w.checkNumber(e, a)
	return is
}

func (w *World) areEqual(a []heap.Word) bool {
	l := w.formsOf(a)
	for i := 1; i < len(l); i++ {
		if !w.equals(l[i-1], l[i], a) {
			return false
		}
	}
	return true
}

func (w *World) areDifferent(a []heap.Word) bool {
	l := w.formsOf(a)
	for i := range l {
		for k := range i {
			if w.equals(l[k], l[i], a) {
				return false
			}
		}
	}
	return true
}

func (w *World) onOrder() map[string]body {
	return map[string]body{
		"=":  w.predicate(w.areEqual),
		"/=": w.predicate(w.areDifferent),
		"<":  w.inOrder(func(order int) bool { return order < 0 }),
		"<=": w.inOrder(func(order int) bool { return order <= 0 }),
		">":  w.inOrder(func(order int) bool { return order > 0 }),
		">=": w.inOrder(func(order int) bool { return order >= 0 }),
	}
}

// quotient returns the quotient and the remainder of the first argument and the second one, or 1.
func (w *World) quotient(way int, a []heap.Word) []heap.Word {
	l := w.formsOf(a)
	if len(l) == 1 {
		l = append(l, integer(1))
	}
	q, r, e := number.Quotient(way, l[0], l[1])
	w.checkNumber(e, a)
	return values(w.numeral(q), w.numeral(r))
}

func (w *World) rounded(way int) body {
	return func(a []heap.Word) []heap.Word { return w.quotient(way, a) }
}

func (w *World) remainder(way int) body {
	return one(func(a []heap.Word) heap.Word { return w.quotient(way, a)[1] })
}

func (w *World) onQuotients() map[string]body {
	return map[string]body{
		"FLOOR":    w.rounded(number.Floor),
		"CEILING":  w.rounded(number.Ceiling),
		"TRUNCATE": w.rounded(number.Truncate),
		"ROUND":    w.rounded(number.Round),
		"MOD":      w.remainder(number.Floor),
		"REM":      w.remainder(number.Truncate),
	}
}

// ofAll makes the body of a function that takes all its arguments at once.
func (w *World) ofAll(f func(l []api.Form) (api.Form, api.Errno)) body {
	return one(func(a []heap.Word) heap.Word {
		x, e := f(w.formsOf(a))
		w.checkNumber(e, a)
		return w.numeral(x)
	})
}

// bits makes the body of a function that combines integers bit by bit.
func (w *World) bits(op int, first int64) body {
	return w.sum(func(x, y api.Form) (api.Form, api.Errno) { return number.Boole(op, x, y) }, first)
}

func (w *World) onIntegers() map[string]body {
	return map[string]body{
		"GCD":    w.ofAll(number.Gcd),
		"LCM":    w.ofAll(number.Lcm),
		"LOGAND": w.bits(opAnd, -1),
		"LOGIOR": w.bits(opOr, 0),
		"LOGXOR": w.bits(opXor, 0),
		"LOGNOT": w.ofOne(func(x api.Form) (api.Form, api.Errno) { return number.Sub(integer(-1), x) }),
		"ASH":    one(w.shifted),
		"EXPT":   one(w.power),
	}
}

// within returns the value of an integer, or the nearest one from -most to most.
func within(f api.Form, most int) int {
	// Of what has too many digits this is the nearest number that there is.
	n, _ := strconv.ParseInt(f.Text, 10, 64)
	return int(max(min(n, int64(most)), int64(-most)))
}

// shifted returns an integer that is shifted. Layer 5 tells what is too large.
func (w *World) shifted(a []heap.Word) heap.Word {
	l := w.formsOf(a)
	n := within(l[1], mostShift+1)
	x, e := number.Shift(l[0], max(n, -mostShift))
	w.checkNumber(e, a)
	return w.numeral(x)
}

// power returns a power. Layer 5 refuses exponents that are too great.
func (w *World) power(a []heap.Word) heap.Word {
	l := w.formsOf(a)
	x, e := number.Power(l[0], within(l[1], mostPower+1))
	w.checkNumber(e, a)
	return w.numeral(x)
}

func (w *World) onParts() map[string]body {
	return map[string]body{
		"NUMERATOR":   w.ofOne(number.Numerator),
		"DENOMINATOR": w.ofOne(number.Denominator),
		"REALPART":    w.ofOne(number.Real),
		"IMAGPART":    w.ofOne(number.Imaginary),
		"RATIONAL":    w.ofOne(number.Rational),
		"RATIONALIZE": w.ofOne(number.Rationalize),
		"COMPLEX": one(func(a []heap.Word) heap.Word {
			l := append(w.formsOf(a), integer(0))
			x, e := number.Complex(l[0], l[1])
			w.checkNumber(e, a)
			return w.numeral(x)
		}),
		"FLOAT": one(w.floated),
	}
}

// floated returns the first argument as a float, of the kind of the second one, if this is one.
func (w *World) floated(a []heap.Word) heap.Word {
	l := w.formsOf(a)
	kind := api.FormSingle
	if len(l) == 2 && isFloat(l[1].Kind) {
		kind = l[1].Kind
	} else if isFloat(l[0].Kind) {
		return a[0]
	}
	x, e := number.Float(l[0], kind)
	w.checkNumber(e, a)
	return w.numeral(x)
}
