// Package number has Common Lisp's tower of numbers as data: integers, ratios, single and double floats, and complex numbers, with the rules of contagion and canonical forms. See shared/doc/05-number.md.
package number

import (
	"strconv"
	"strings"

	"commonform/api"
	"commonform/float"
	"commonform/integer"
	"commonform/rational"
)

// Ways of rounding a quotient to an integer.
const (
	Floor = iota
	Ceiling
	Truncate
	Round
)

// The kinds of real numbers, in the order of contagion.
const (
	exact = iota
	single
	double
	kinds
)

// A scalar is a real number: by its value if it is exact, and otherwise by the bits of the float.
type scalar struct {
	kind  int
	value rational.Ratio
	bits  uint64
}

// A number has a real and an imaginary part; that of a real number is the integer 0.
type number struct {
	parts     [2]scalar
	isComplex bool
}

func whole(n int64) scalar {
	return ratio(rational.Of(integer.New(n)))
}

func ratio(x rational.Ratio) scalar {
	return scalar{kind: exact, value: x}
}

func floating(kind int, bits uint64) scalar {
	return scalar{kind: kind, bits: bits}
}

// alone returns a real number as a number.
func alone(x scalar) number {
	return number{parts: [2]scalar{x, whole(0)}}
}

// format returns the format of the floats of a kind other than exact.
func format(kind int) float.Format {
	if kind == single {
		return float.Single
	}
	return float.Double
}

// exactValue returns the value, of a float too.
func (x scalar) exactValue() rational.Ratio {
	if x.kind == exact {
		return x.value
	}
	v, _ := float.Value(format(x.kind), x.bits)
	return v
}

func (x scalar) sign() int {
	return x.exactValue().Sign()
}

// isInteger reports whether the number is of the kind of integers, whatever its value.
func (x scalar) isInteger() bool {
	return x.kind == exact && x.value.Whole()
}

// hexWidth returns the number of digits of the bits of floats.
func hexWidth(kind int) int {
	if kind == single {
		return 8
	}
	return 16
}

func hex(kind int, bits uint64) string {
	s := strconv.FormatUint(bits, 16)
	return strings.Repeat("0", max(0, hexWidth(kind)-len(s))) + s
}

// Check returns the error of a number.
func Check(x api.Form) api.Errno {
	_, e := parse(x)
	return e
}

// parse returns the number of a form, and its error.
func parse(x api.Form) (number, api.Errno) {
	switch {
	case x.Kind < api.FormInt || x.Kind > api.FormComplex:
		return number{}, api.ErrType
	case hasLongText(x):
		return number{}, api.ErrLarge
	case x.Kind != api.FormComplex:
		a, ok := parseReal(x)
		if !ok {
			return number{}, api.ErrForm
		}
		return alone(a), api.OK
	case x.Home != "" || x.Text != "" || len(x.Kids) != 2:
		return number{}, api.ErrForm
	}
	a, ok := parseReal(x.Kids[0])
	b, fits := parseReal(x.Kids[1])
	if !ok || !fits || a.kind != b.kind || b.kind == exact && b.sign() == 0 {
		return number{}, api.ErrForm
	}
	return number{[2]scalar{a, b}, true}, api.OK
}

func hasLongText(x api.Form) bool {
	if len(x.Text) > api.MaxDigits {
		return true
	}
	for _, k := range x.Kids {
		if hasLongText(k) {
			return true
		}
	}
	return false
}

// parseReal returns a real number, and whether the form is one.
func parseReal(x api.Form) (scalar, bool) {
	if x.Home != "" || len(x.Kids) > 0 {
		return scalar{}, false
	}
	switch x.Kind {
	case api.FormInt, api.FormRatio:
		v, e := rational.Parse(x.Text, 10)
		if e != api.OK || v.Whole() != (x.Kind == api.FormInt) {
			return scalar{}, false
		}
		// There is just one text of a number, the one that is written.
		text, _ := v.Text(10)
		return ratio(v), text == x.Text
	case api.FormSingle:
		return parseFloat(single, x.Text)
	case api.FormDouble:
		return parseFloat(double, x.Text)
	}
	return scalar{}, false
}

// parseFloat returns the float whose bits are written in a text, and whether there is one.
func parseFloat(kind int, text string) (scalar, bool) {
	bits, err := strconv.ParseUint(text, 16, 64)
	if err != nil || hex(kind, bits) != text {
		return scalar{}, false
	}
	_, e := float.Value(format(kind), bits)
	return floating(kind, bits), e == api.OK
}

// form returns the form of a real number.
func (x scalar) form() (api.Form, api.Errno) {
	f := api.Form{}
	switch {
	case x.kind == single:
		f = api.Form{Kind: api.FormSingle, Text: hex(single, x.bits)}
	case x.kind == double:
		f = api.Form{Kind: api.FormDouble, Text: hex(double, x.bits)}
	default:
		text, _ := x.value.Text(10)
		f = api.Form{Kind: api.FormRatio, Text: text}
		if x.value.Whole() {
			f.Kind = api.FormInt
		}
	}
	if len(f.Text) > api.MaxDigits {
		return api.Form{}, api.ErrLarge
	}
	return f, api.OK
}

// form returns the form of a number.
func (x number) form() (api.Form, api.Errno) {
	re, e := x.parts[0].form()
	if e != api.OK || !x.isComplex {
		return re, e
	}
	im, e := x.parts[1].form()
	if e != api.OK {
		return api.Form{}, e
	}
	return api.Form{Kind: api.FormComplex, Kids: []api.Form{re, im}}, api.OK
}
