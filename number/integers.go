package number

import (
	"commonform/api"
	"commonform/integer"
	"commonform/rational"
)

// readInteger returns the integer of a form; ErrType for another number.
func (w *work) readInteger(x api.Form) integer.Int {
	return w.toInteger(w.read(x))
}

func (w *work) toInteger(x number) integer.Int {
	w.need(!x.isComplex && x.parts[0].isInteger(), api.ErrType)
	return x.parts[0].value.Numerator()
}

// readIntegers returns the integers of a list.
func (w *work) readIntegers(l []api.Form) []integer.Int {
	var numbers []integer.Int
	for _, x := range l {
		n := w.readInteger(x)
		if w.e != api.OK {
			break
		}
		numbers = append(numbers, n)
	}
	return numbers
}

func (w *work) doneInteger(x integer.Int) (api.Form, api.Errno) {
	return w.done(alone(ratio(rational.Of(x))))
}

// Gcd returns the greatest common divisor of integers.
func Gcd(l []api.Form) (api.Form, api.Errno) {
	w := &work{}
	var divisor integer.Int
	for _, n := range w.readIntegers(l) {
		divisor = divisor.Gcd(n)
	}
	return w.doneInteger(divisor)
}

// Lcm returns the least common multiple of integers.
func Lcm(l []api.Form) (api.Form, api.Errno) {
	w := &work{}
	numbers := w.readIntegers(l)
	for _, n := range numbers {
		if n.Sign() == 0 {
			return w.doneInteger(n)
		}
	}
	multiple := integer.New(1)
	for _, n := range numbers {
		q, _, _ := n.Divide(multiple.Gcd(n))
		multiple = multiple.Mul(q).Abs()
		if multiple.Length() > api.MaxBits {
			w.fail(api.ErrLarge)
			break
		}
	}
	return w.doneInteger(multiple)
}

// Boole combines two integers bit by bit.
func Boole(op int, x, y api.Form) (api.Form, api.Errno) {
	w := &work{}
	a := w.read(x)
	b := w.read(y)
	m, n := w.toInteger(a), w.toInteger(b)
	z, e := m.Boole(op, n)
	w.fail(e)
	return w.doneInteger(z)
}

// Shift returns an integer times 2 to the power of n, rounded down.
func Shift(x api.Form, n int) (api.Form, api.Errno) {
	w := &work{}
	z, e := w.readInteger(x).Shift(n)
	w.fail(e)
	return w.doneInteger(z)
}
