package number

import (
	"strconv"
	"strings"

	"commonform/api"
	"commonform/float"
	"commonform/rational"
)

// A reader goes through the text of a token.
type reader struct {
	text string
	at   int
}

func (r *reader) atEnd() bool {
	return r.at == len(r.text)
}

// take goes behind the byte ahead, if it is this one, and reports whether it was.
func (r *reader) take(c byte) bool {
	if r.atEnd() || r.text[r.at] != c {
		return false
	}
	r.at++
	return true
}

func (r *reader) sign() {
	if !r.take('+') {
		r.take('-')
	}
}

// digits goes behind the digits of a base, and reports whether there were some.
func (r *reader) digits(base int) bool {
	from := r.at
	for !r.atEnd() && isDigit(r.text[r.at], base) {
		r.at++
	}
	return r.at > from
}

func isDigit(c byte, base int) bool {
	const small, great = "0123456789abcdefghijklmnopqrstuvwxyz", "0123456789ABCDEFGHIJKLMNOPQRSTUVWXYZ"
	return strings.IndexByte(small[:base], c) >= 0 || strings.IndexByte(great[:base], c) >= 0
}

// isRatio reports whether the text is an integer or a ratio in a base.
func (r *reader) isRatio(base int) bool {
	r.at = 0
	r.sign()
	if !r.digits(base) {
		return false
	}
	return r.atEnd() || r.take('/') && r.digits(base) && r.atEnd()
}

// isDecimal reports whether the text is a decimal integer with its point.
func (r *reader) isDecimal() bool {
	r.at = 0
	r.sign()
	return r.digits(10) && r.take('.') && r.atEnd()
}

// isFloat reports whether the text is a float, and returns the place of the exponent's letter, or of the end.
func (r *reader) isFloat() (letter int, ok bool) {
	r.at = 0
	r.sign()
	before := r.digits(10)
	behind := r.take('.') && r.digits(10)
	letter = r.at
	switch {
	case !before && !behind:
		return 0, false
	case r.atEnd():
		return letter, behind
	}
	r.at++
	r.sign()
	return letter, r.digits(10) && r.atEnd()
}

// Read returns the number of a token.
func Read(text string, base int, double bool) (api.Form, api.Errno) {
	switch {
	case base < 2 || base > 36:
		return api.Form{}, api.ErrArg
	case len(text) > api.MaxDigits:
		return api.Form{}, api.ErrLarge
	}
	w := &work{}
	r := &reader{text: text}
	if r.isRatio(base) {
		x, e := rational.Parse(text, base)
		w.fail(e)
		return w.done(alone(ratio(x)))
	}
	if r.isDecimal() {
		x, e := rational.Parse(text[:len(text)-1], 10)
		w.fail(e)
		return w.done(alone(ratio(x)))
	}
	letter, ok := r.isFloat()
	if !ok {
		return api.Form{}, api.ErrForm
	}
	return w.done(alone(w.readFloat(text, letter, double)))
}

// readFloat returns the float of a text with the letter of its exponent, if there is one, at a place.
func (w *work) readFloat(text string, letter int, isDouble bool) scalar {
	kind := single
	if isDouble {
		kind = double
	}
	if letter < len(text) {
		switch text[letter] {
		case 's', 'S', 'f', 'F':
			kind = single
		case 'd', 'D', 'l', 'L':
			kind = double
		case 'e', 'E':
		default:
			w.fail(api.ErrForm)
		}
		text = text[:letter] + "e" + text[letter+1:]
	}
	bits, e := float.Read(format(kind), text)
	w.fail(e)
	return floating(kind, bits)
}

// Print returns the text of a number.
func Print(x api.Form, base int, radix, double bool) (string, api.Errno) {
	a, e := parse(x)
	switch {
	case e != api.OK:
		return "", e
	case base < 2 || base > 36:
		return "", api.ErrArg
	}
	usual := float.Single
	if double {
		usual = float.Double
	}
	show := func(x scalar) string {
		if x.kind == exact {
			return showRatio(x.value, base, radix)
		}
		text, _ := float.Print(format(x.kind), x.bits, usual)
		return text
	}
	if !a.isComplex {
		return show(a.parts[0]), api.OK
	}
	return "#C(" + show(a.parts[0]) + " " + show(a.parts[1]) + ")", api.OK
}

// showRatio returns the text of a rational number, and what tells the base, if this is wanted.
func showRatio(x rational.Ratio, base int, radix bool) string {
	text, _ := x.Text(base)
	switch {
	case !radix:
		return text
	case base == 10 && x.Whole():
		return text + "."
	case base == 2:
		return "#b" + text
	case base == 8:
		return "#o" + text
	case base == 16:
		return "#x" + text
	}
	return "#" + strconv.Itoa(base) + "r" + text
}
