package rational

import (
	"commonform/api"
	"commonform/integer"
)

// Ways of rounding a quotient to an integer.
const (
	Floor = iota
	Ceiling
	Truncate
	Round
	ways
)

// floor returns the greatest integer that is not above n/d, for a d above 0, and n less d times it.
func floor(n, d integer.Int) (integer.Int, integer.Int) {
	q, r, _ := n.Divide(d)
	if r.Sign() < 0 {
		return q.Sub(integer.New(1)), r.Add(d)
	}
	return q, r
}

// Quotient returns x/y, rounded to an integer, and the remainder.
func (x Ratio) Quotient(way int, y Ratio) (integer.Int, Ratio, api.Errno) {
	if way < 0 || way >= ways {
		return integer.Int{}, Ratio{}, api.ErrArg
	}
	exactly, e := x.Div(y)
	if e != api.OK {
		return integer.Int{}, Ratio{}, e
	}
	q := exactly.rounded(way)
	return q, x.Sub(y.Mul(Of(q))), api.OK
}

// rounded returns the integer to which x is rounded.
func (x Ratio) rounded(way int) integer.Int {
	d := x.Denominator()
	down, rest := floor(x.numerator, d)
	goesUp := [ways]func() bool{
		Floor:    func() bool { return false },
		Ceiling:  func() bool { return rest.Sign() > 0 },
		Truncate: func() bool { return rest.Sign() > 0 && x.Sign() < 0 },
		Round: func() bool {
			half := rest.Add(rest).Cmp(d)
			return half > 0 || half == 0 && down.Odd()
		},
	}
	if goesUp[way]() {
		return down.Add(integer.New(1))
	}
	return down
}
