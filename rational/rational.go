// Package rational has fractions of any size: arithmetic, quotients that are rounded in the four ways of Common Lisp, continued fractions, and the simplest fraction between two others. See shared/doc/03-rational.md.
package rational

import (
	"strings"

	"commonform/api"
	"commonform/integer"
)

// Ratio is a fraction of any size. The zero value is 0.
type Ratio struct {
	numerator   integer.Int
	denominator integer.Int // 0 stands for 1, so that each fraction, 0 too, is kept in just one way
}

// lowest returns n/d for a d above 0; both have no common divisor.
func lowest(n, d integer.Int) Ratio {
	if d.Cmp(integer.New(1)) == 0 {
		return Ratio{numerator: n}
	}
	return Ratio{n, d}
}

// exact returns x/y for a y that divides x.
func exact(x, y integer.Int) integer.Int {
	q, _, _ := x.Divide(y)
	return q
}

// New returns n/d.
func New(n, d integer.Int) (Ratio, api.Errno) {
	switch d.Sign() {
	case 0:
		return Ratio{}, api.ErrZero
	case -1:
		n, d = n.Neg(), d.Neg()
	}
	g := n.Gcd(d)
	return lowest(exact(n, g), exact(d, g)), api.OK
}

// Of returns the fraction that is an integer.
func Of(n integer.Int) Ratio {
	return Ratio{numerator: n}
}

// Numerator returns the numerator in lowest terms.
func (x Ratio) Numerator() integer.Int {
	return x.numerator
}

// Denominator returns the denominator in lowest terms.
func (x Ratio) Denominator() integer.Int {
	if x.Whole() {
		return integer.New(1)
	}
	return x.denominator
}

// Whole reports whether x is an integer.
func (x Ratio) Whole() bool {
	return x.denominator.Sign() == 0
}

// Sign returns -1, 0 or 1.
func (x Ratio) Sign() int {
	return x.numerator.Sign()
}

// Cmp compares x and y.
func (x Ratio) Cmp(y Ratio) int {
	left := x.numerator.Mul(y.Denominator())
	return left.Cmp(y.numerator.Mul(x.Denominator()))
}

// Neg returns -x.
func (x Ratio) Neg() Ratio {
	return Ratio{x.numerator.Neg(), x.denominator}
}

// Abs returns the absolute value of x.
func (x Ratio) Abs() Ratio {
	return Ratio{x.numerator.Abs(), x.denominator}
}

// Add returns x + y.
func (x Ratio) Add(y Ratio) Ratio {
	// Only the divisors that both denominators have can be left in the sum: small ones, most times.
	b, d := x.Denominator(), y.Denominator()
	g := b.Gcd(d)
	b = exact(b, g)
	n := x.numerator.Mul(exact(d, g)).Add(y.numerator.Mul(b))
	h := n.Gcd(g)
	return lowest(exact(n, h), b.Mul(exact(d, h)))
}

// Sub returns x - y.
func (x Ratio) Sub(y Ratio) Ratio {
	return x.Add(y.Neg())
}

// Mul returns the product of x and y.
func (x Ratio) Mul(y Ratio) Ratio {
	// A numerator has divisors with the other denominator alone.
	b, d := x.Denominator(), y.Denominator()
	g, h := x.numerator.Gcd(d), y.numerator.Gcd(b)
	n := exact(x.numerator, g).Mul(exact(y.numerator, h))
	return lowest(n, exact(b, h).Mul(exact(d, g)))
}

// Div returns x/y.
func (x Ratio) Div(y Ratio) (Ratio, api.Errno) {
	if y.Sign() == 0 {
		return Ratio{}, api.ErrZero
	}
	return x.Mul(y.inverse()), api.OK
}

// inverse returns 1/x for an x that is not 0.
func (x Ratio) inverse() Ratio {
	if x.Sign() < 0 {
		return lowest(x.Denominator().Neg(), x.numerator.Neg())
	}
	return lowest(x.Denominator(), x.numerator)
}

// Power returns x to the power of n.
func (x Ratio) Power(n int) (Ratio, api.Errno) {
	if n >= 0 {
		return x.power(n)
	}
	if x.Sign() == 0 {
		return Ratio{}, api.ErrZero
	}
	inverse := x.inverse()
	if -n < 0 {
		// The least int has no opposite; an exponent so large matters by its being even only.
		return inverse.power(-(n + 2))
	}
	return inverse.power(-n)
}

// power returns x to the power of n, which is not below 0.
func (x Ratio) power(n int) (Ratio, api.Errno) {
	top, e := x.numerator.Power(n)
	if e != api.OK {
		return Ratio{}, e
	}
	bottom, e := x.Denominator().Power(n)
	if e != api.OK {
		return Ratio{}, e
	}
	return lowest(top, bottom), api.OK
}

// Root returns the square root of x, if it is a fraction.
func (x Ratio) Root() (Ratio, api.Errno) {
	if x.Sign() < 0 {
		return Ratio{}, api.ErrArg
	}
	top, some := root(x.numerator)
	bottom, more := root(x.Denominator())
	if !some || !more {
		return Ratio{}, api.ErrNone
	}
	return lowest(top, bottom), api.OK
}

// root returns the square root of an integer that is not below 0, rounded down, and whether it is the root.
func root(x integer.Int) (integer.Int, bool) {
	r, _ := x.Root()
	return r, r.Mul(r).Cmp(x) == 0
}

// Text returns the text of x.
func (x Ratio) Text(radix int) (string, api.Errno) {
	top, e := x.numerator.Text(radix)
	if e != api.OK || x.Whole() {
		return top, e
	}
	bottom, e := x.denominator.Text(radix)
	if e != api.OK {
		return "", e
	}
	return top + "/" + bottom, api.OK
}

// Parse returns the fraction with a text.
func Parse(s string, radix int) (Ratio, api.Errno) {
	// The whole text has the limit, which its parts alone might keep.
	if len(s) > api.MaxDigits {
		_, e := integer.Parse(s, radix)
		return Ratio{}, e
	}
	before, behind, some := strings.Cut(s, "/")
	top, e := integer.Parse(before, radix)
	if e != api.OK || !some {
		return Ratio{numerator: top}, e
	}
	bottom, e := integer.Parse(behind, radix)
	switch {
	case e != api.OK:
		return Ratio{}, e
	case behind[0] == '+' || behind[0] == '-':
		return Ratio{}, api.ErrForm
	}
	return New(top, bottom)
}
