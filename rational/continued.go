package rational

import (
	"iter"

	"commonform/api"
	"commonform/integer"
)

// elements yields the elements of the continued fraction of n/d, for a d above 0.
func elements(n, d integer.Int) iter.Seq[integer.Int] {
	return func(yield func(integer.Int) bool) {
		for d.Sign() != 0 {
			q, r := floor(n, d)
			if !yield(q) {
				return
			}
			n, d = d, r
		}
	}
}

// Expansion returns the continued fraction of x.
func (x Ratio) Expansion() []integer.Int {
	var l []integer.Int
	for q := range elements(x.numerator, x.Denominator()) {
		l = append(l, q)
	}
	return l
}

// Contract returns the fraction with a continued fraction.
func Contract(l []integer.Int) (Ratio, api.Errno) {
	if len(l) == 0 {
		return Ratio{}, api.ErrNone
	}
	// From the end on: n/d becomes an element plus d/n, which has no new common divisor.
	last := len(l) - 1
	n, d := l[last], integer.New(1)
	for i := last - 1; i >= 0; i-- {
		if n.Sign() == 0 {
			return Ratio{}, api.ErrZero
		}
		n, d = l[i].Mul(n).Add(d), n
	}
	return New(n, d)
}

// Simplest returns the simplest fraction between two others.
func Simplest(low, high Ratio) (Ratio, api.Errno) {
	switch {
	case low.Cmp(high) > 0:
		return Ratio{}, api.ErrOrder
	case low.Sign() > 0:
		return between(low, high), api.OK
	case high.Sign() < 0:
		return between(high.Neg(), low.Neg()).Neg(), api.OK
	}
	return Ratio{}, api.OK
}

// between returns the simplest fraction from low to high, which are above 0: its continued fraction is the part that both have in common, and then the least integer between what follows there.
func between(low, high Ratio) Ratio {
	n, d := low.numerator, low.Denominator()
	m, c := high.numerator, high.Denominator()
	var common []integer.Int
	for {
		least, rest := floor(n, d)
		greatest, more := floor(m, c)
		if rest.Sign() > 0 && least.Cmp(greatest) < 0 {
			least, rest = least.Add(integer.New(1)), integer.Int{}
		}
		common = append(common, least)
		if rest.Sign() == 0 {
			x, _ := Contract(common)
			return x
		}
		// What follows is the inverse, so low and high change places.
		n, d, m, c = c, more, d, rest
	}
}
