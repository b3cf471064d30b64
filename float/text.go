package float

import (
	"strconv"
	"strings"

	"commonform/api"
	"commonform/integer"
	"commonform/rational"
)

// beyond is a power of ten that is far above all floats, and its inverse far below.
const beyond = 400

// powerOfTen returns 10 to the power of n, for n from 0 on.
func powerOfTen(n int) integer.Int {
	// In two halves, since Power makes no number above MaxBits, and a text may need some more.
	half, _ := integer.New(10).Power(n / 2)
	rest, _ := integer.New(10).Power(n - n/2)
	return half.Mul(rest)
}

// unit returns 10 to the power of n.
func unit(n int) rational.Ratio {
	if n >= 0 {
		return rational.Of(powerOfTen(n))
	}
	x, _ := rational.New(integer.New(1), powerOfTen(-n))
	return x
}

// placeOf returns the p for which x is from 10^(p-1) to below 10^p.
func placeOf(x rational.Ratio) int {
	const overOneDigit = 30102 // a bit less than log 2 to the base 10, times 100000
	length := x.Numerator().Length() - x.Denominator().Length()
	p := (length-2)*overOneDigit/100000 - 1
	for x.Cmp(unit(p)) >= 0 {
		p++
	}
	return p
}

// Shortest returns the shortest decimal digits from which a float is read back, and the place of the point.
func Shortest(f Format, x uint64) (digits string, point int, e api.Errno) {
	if e := check(f, x); e != api.OK {
		return "", 0, e
	}
	if f.size(x) == 0 {
		return "0", 0, api.OK
	}
	value := f.value(f.size(x))
	isRead := func(candidate rational.Ratio) bool {
		size, e := f.nearest(candidate.Numerator(), candidate.Denominator())
		return e == api.OK && size == f.size(x)
	}
	point = placeOf(value)
search:
	for n := 1; ; n++ {
		last := unit(point - n)
		for _, candidate := range around(value, last) {
			if isRead(rational.Of(candidate).Mul(last)) {
				digits, _ = candidate.Text(10)
				// The next power of ten has one digit more.
				point += len(digits) - n
				break search
			}
		}
	}
	return strings.TrimRight(digits, "0"), point, api.OK
}

// around returns the multiples of a unit next to a value, rounded down and up, the nearer one first, of two equally near ones the even one.
func around(value, unit rational.Ratio) [2]integer.Int {
	down, rest, _ := value.Quotient(rational.Floor, unit)
	up := down.Add(integer.New(1))
	half := rest.Add(rest).Cmp(unit)
	if half > 0 || half == 0 && down.Odd() {
		return [2]integer.Int{up, down}
	}
	return [2]integer.Int{down, up}
}

// Places returns a fraction with so many decimal places.
func Places(x rational.Ratio, n int) (string, api.Errno) {
	if n < 0 || n > 400 {
		return "", api.ErrArg
	}
	units, _, _ := x.Quotient(rational.Round, unit(-n))
	digits, _ := units.Abs().Text(10)
	text := withPoint(digits, len(digits)-n)
	if units.Sign() < 0 {
		return "-" + text, api.OK
	}
	return text, api.OK
}

// withPoint returns the digits with a point behind so many of them, and zeros between the point and them, as far as they are missing.
func withPoint(digits string, point int) string {
	switch {
	case point <= 0:
		return "0." + strings.Repeat("0", -point) + digits
	case point > len(digits):
		return digits + strings.Repeat("0", point-len(digits)) + "."
	}
	return digits[:point] + "." + digits[point:]
}

// Print returns the text of a float.
func Print(f Format, x uint64, usual Format) (string, api.Errno) {
	digits, point, e := Shortest(f, x)
	if e == api.OK {
		e = check(usual)
	}
	if e != api.OK {
		return "", e
	}
	letter := "e"
	if f != usual {
		letter = [formats]string{Single: "f", Double: "d"}[f]
	}
	text := f.plain(x, digits, point)
	switch {
	case text == "":
		text = endless(withPoint(digits, 1)) + letter + strconv.Itoa(point-1)
	case f != usual:
		text += letter + "0"
	}
	if x&f.signBit() != 0 {
		text = "-" + text
	}
	return text, api.OK
}

// plain returns the digits without a power of ten, and an empty text for a value that is too great, or too small, to be written so.
func (f Format) plain(x uint64, digits string, point int) string {
	value := f.value(f.size(x))
	if value.Sign() != 0 && (value.Cmp(unit(-3)) < 0 || value.Cmp(unit(7)) >= 0) {
		return ""
	}
	return endless(withPoint(digits, point))
}

// endless adds the digit that has to stand behind a point at the end.
func endless(text string) string {
	if strings.HasSuffix(text, ".") {
		return text + "0"
	}
	return text
}
