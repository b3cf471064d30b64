package float

import (
	"commonform/api"
	"commonform/integer"
)

// A decimal is the number that the digits make, with a point behind so many of them, times 10^exponent.
type decimal struct {
	negative        bool
	digits          string
	point, exponent int
}

// Read returns the float with a decimal text.
func Read(f Format, s string) (uint64, api.Errno) {
	switch {
	case check(f) != api.OK:
		return 0, api.ErrArg
	case len(s) > api.MaxDigits:
		return 0, api.ErrLarge
	}
	d, ok := parse(s)
	if !ok {
		return 0, api.ErrForm
	}
	size, e := f.ofDecimal(d)
	if e != api.OK {
		return 0, e
	}
	return f.signed(size, d.negative), api.OK
}

// parse returns the decimal of a text, and whether it is one.
func parse(s string) (decimal, bool) {
	var d decimal
	d.negative, s = cutSign(s)
	before, s := cutDigits(s)
	behind := ""
	if s != "" && s[0] == '.' {
		behind, s = cutDigits(s[1:])
	}
	d.digits, d.point = before+behind, len(before)
	if d.digits == "" || s == "" {
		return d, d.digits != ""
	}
	if s[0] != 'e' && s[0] != 'E' {
		return decimal{}, false
	}
	down, s := cutSign(s[1:])
	power, s := cutDigits(s)
	d.exponent = bounded(power)
	if down {
		d.exponent = -d.exponent
	}
	return d, power != "" && s == ""
}

// cutSign returns whether a text begins with a minus, and the text behind the sign.
func cutSign(s string) (bool, string) {
	if s == "" || s[0] != '-' && s[0] != '+' {
		return false, s
	}
	return s[0] == '-', s[1:]
}

// cutDigits returns the digits at the beginning of a text, and what stands behind them.
func cutDigits(s string) (digits, rest string) {
	n := 0
	for n < len(s) && s[n] >= '0' && s[n] <= '9' {
		n++
	}
	return s[:n], s[n:]
}

// bounded returns the number of digits, or one that is greater than all that matter.
func bounded(digits string) int {
	const great = 1 << 30
	n := 0
	for i := range len(digits) {
		n = min(10*n+int(digits[i]-'0'), great)
	}
	return n
}

// ofDecimal returns the bits of the float nearest to the absolute value of a decimal.
func (f Format) ofDecimal(d decimal) (uint64, api.Errno) {
	zeros := 0
	for zeros < len(d.digits) && d.digits[zeros] == '0' {
		zeros++
	}
	place := d.point - zeros + d.exponent // the value is from 10^(place-1) to below 10^place
	switch {
	case zeros == len(d.digits) || place < -beyond:
		return 0, api.OK
	case place > beyond:
		return 0, api.ErrOver
	}
	number, _ := integer.Parse(d.digits, 10)
	power := d.exponent + d.point - len(d.digits)
	if power < 0 {
		return f.nearest(number, powerOfTen(-power))
	}
	return f.nearest(number.Mul(powerOfTen(power)), integer.New(1))
}
