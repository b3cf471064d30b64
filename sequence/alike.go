package sequence

import (
	"strconv"
	"strings"

	"commonform/api"
	"commonform/number"
)

// Alike reports whether two elements are alike by a test.
func Alike(test int, x, y api.Form) (bool, api.Errno) {
	if !isOne(test, tests) {
		return false, api.ErrArg
	}
	mark := markOf(test)
	return mark(x) == mark(y), api.OK
}

// markOf returns the function that makes the mark of an element: a text that two elements have in common exactly if they are alike. So a mark is made just once, even if an element is held against many others.
func markOf(test int) func(api.Form) string {
	return [...]func(api.Form) string{
		Same: func(x api.Form) string {
			m := &marker{}
			m.same(x)
			return m.String()
		},
		Loose: func(x api.Form) string {
			m := &marker{}
			m.loose(x)
			return m.String()
		},
	}[test]
}

// A marker writes marks.
type marker struct {
	strings.Builder
}

// number writes a number, so that what stands behind it is told from it.
func (m *marker) number(n int) {
	m.WriteString(strconv.Itoa(n))
	m.WriteByte(' ')
}

// text writes a text, whose end is told by its length.
func (m *marker) text(s string) {
	m.number(len(s))
	m.WriteString(s)
}

// same writes all parts of a form.
func (m *marker) same(x api.Form) {
	m.number(x.Kind)
	m.text(x.Text)
	m.text(x.Home)
	m.number(len(x.Kids))
	for _, k := range x.Kids {
		m.same(k)
	}
}

// loose writes what of a form counts by Loose, behind a letter for the kind of what follows.
func (m *marker) loose(x api.Form) {
	switch x.Kind {
	case api.FormChar:
		m.WriteByte('c')
		m.text(upper(x.Text))
	case api.FormString:
		m.WriteByte('s')
		m.text(upper(x.Text))
	case api.FormCons:
		m.WriteByte('l')
		m.parts(x)
	case api.FormVector:
		m.WriteByte('v')
		m.parts(x)
	default:
		if number.Check(x) == api.OK {
			m.WriteByte('n')
			m.value(x)
			return
		}
		m.WriteByte('f')
		m.same(x)
	}
}

func (m *marker) parts(x api.Form) {
	m.number(len(x.Kids))
	for _, k := range x.Kids {
		m.loose(k)
	}
}

// value writes the exact values of both parts of a number.
func (m *marker) value(x api.Form) {
	re, _ := number.Real(x)
	im, _ := number.Imaginary(x)
	for _, part := range []api.Form{re, im} {
		exact, _ := number.Rational(part)
		m.text(exact.Text)
	}
}

// upper returns a text with the small letters of ASCII as great ones. It goes byte by byte, since the text of a form may be no right UTF-8.
func upper(s string) string {
	b := []byte(s)
	for i, c := range b {
		if c >= 'a' && c <= 'z' {
			b[i] = c - 'a' + 'A'
		}
	}
	return string(b)
}
