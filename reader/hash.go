package reader

import (
	"maps"
	"strconv"
	"strings"

	"commonform/api"
	"commonform/forms"
	"commonform/number"
	"commonform/token"
)

// Whether a number may stand ahead of a dispatch character, or has to.
const (
	never = iota
	maybe
	always
)

// A hash reads on behind a dispatch character. It is told the place of the # and the number, -1 for none, and reports whether there is a form.
type hash struct {
	number int
	read   func(r *reading, at, n int) (api.Form, bool)
}

// hashes returns the dispatch characters.
func hashes() map[rune]hash {
	return map[rune]hash{
		'\'': {never, (*reading).function},
		'\\': {never, (*reading).character},
		'(':  {maybe, (*reading).vector},
		'*':  {maybe, (*reading).bits},
		':':  {never, (*reading).homeless},
		'b':  {never, (*reading).binary},
		'o':  {never, (*reading).octal},
		'x':  {never, (*reading).hexadecimal},
		'r':  {always, (*reading).radix},
		'c':  {never, (*reading).complex},
		'a':  {always, (*reading).array},
		'+':  {never, (*reading).with},
		'-':  {never, (*reading).without},
		'=':  {always, (*reading).label},
		'#':  {always, (*reading).reference},
	}
}

// hash reads what stands behind a #.
func (r *reading) hash(at int) (api.Form, bool) {
	const most = 3 // digits
	digits := r.s[r.at:]
	digits = digits[:len(digits)-len(strings.TrimLeft(digits, "0123456789"))]
	if len(digits) > most {
		r.fail(at, ErrHash)
	}
	r.at += len(digits)
	n := -1
	if digits != "" {
		n, _ = strconv.Atoi(digits)
	}
	c := r.take()
	if c >= 'A' && c <= 'Z' {
		c += 'a' - 'A'
	}
	h, some := r.hashes[c]
	if !some || n >= 0 && h.number == never || n < 0 && h.number == always {
		r.fail(at, ErrHash)
	}
	return h.read(r, at, n)
}

func (r *reading) function(int, int) (api.Form, bool) {
	return r.marked("COMMON-LISP", "FUNCTION"), true
}

func (r *reading) character(at, _ int) (api.Form, bool) {
	first := string(r.take())
	rest := r.nameBehind(at)
	if rest == "" {
		return api.Form{Kind: api.FormChar, Text: first}, true
	}
	c, is := Character(first + rest)
	if !is {
		r.fail(at, ErrChar)
	}
	return api.Form{Kind: api.FormChar, Text: string(c)}, true
}

// nameBehind reads the token behind the first character of a name as it is written. Unlike other tokens it may begin with Nonterminating characters.
func (r *reading) nameBehind(at int) string {
	t := token.Table{Entries: r.o.Table.Entries, Case: token.Preserve}
	name := ""
	for !r.atEnd() {
		if r.beginsToken() {
			return name + token.Text(r.next(t, at))
		}
		c, size := r.char()
		kind := r.kind(c)
		if kind == token.Invalid && name != "" {
			r.fail(at, token.ErrInvalid)
		}
		if kind != token.Nonterminating {
			break
		}
		name += string(c)
		r.at += size
	}
	return name
}

// following reads the token that begins here; one without characters if there is none.
func (r *reading) following(at int) token.Token {
	if !r.beginsToken() {
		return token.Token{}
	}
	return r.next(r.o.Table, at)
}

// filled returns a list with n elements: the last one is repeated. It reports whether it can be so.
func filled[T any](l []T, n int) ([]T, bool) {
	if len(l) > n || len(l) == 0 && n > 0 {
		return nil, false
	}
	for len(l) < n {
		l = append(l, l[len(l)-1])
	}
	return l, true
}

func (r *reading) vector(at, n int) (api.Form, bool) {
	x := r.elements(false)
	if n < 0 {
		return api.Form{Kind: api.FormVector, Kids: x.forms}, true
	}
	l, fits := filled(x.forms, n)
	if !fits || len(l) > len(x.forms) && x.isLabelled {
		r.fail(at, ErrShape)
	}
	return api.Form{Kind: api.FormVector, Kids: l}, true
}

func (r *reading) bits(at, n int) (api.Form, bool) {
	x := r.following(at)
	text := token.Text(x)
	if x.Escapes || strings.Trim(text, "01") != "" {
		r.fail(at, api.ErrForm)
	}
	if n >= 0 {
		l, fits := filled([]byte(text), n)
		if !fits {
			r.fail(at, ErrShape)
		}
		text = string(l)
	}
	return api.Form{Kind: api.FormBits, Text: text}, true
}

func (r *reading) homeless(at, _ int) (api.Form, bool) {
	x := r.following(at)
	for i, c := range x.Chars {
		if c == ':' && !x.Escaped[i] {
			r.fail(at, token.ErrMarker)
		}
	}
	return forms.Symbol("", token.Text(x)), true
}

// rational reads a rational number in a base.
func (r *reading) rational(at, base int) (api.Form, bool) {
	x := r.following(at)
	if x.Escapes {
		r.fail(at, api.ErrForm)
	}
	f, e := number.Read(token.Text(x), base, r.o.Double)
	switch {
	case e != api.OK:
		r.fail(at, e)
	case f.Kind != api.FormInt && f.Kind != api.FormRatio:
		r.fail(at, api.ErrForm)
	}
	return f, true
}

func (r *reading) binary(at, _ int) (api.Form, bool) {
	return r.rational(at, 2)
}

func (r *reading) octal(at, _ int) (api.Form, bool) {
	return r.rational(at, 8)
}

func (r *reading) hexadecimal(at, _ int) (api.Form, bool) {
	return r.rational(at, 16)
}

func (r *reading) radix(at, n int) (api.Form, bool) {
	if n < 2 || n > 36 {
		r.fail(at, ErrHash)
	}
	return r.rational(at, n)
}

func (r *reading) complex(at, _ int) (api.Form, bool) {
	isReal := func(f api.Form) bool {
		return forms.Number(f) && f.Kind != api.FormComplex
	}
	f := r.form()
	if f.Kind != api.FormCons || len(f.Kids) != 3 || !isReal(f.Kids[0]) || !isReal(f.Kids[1]) || !forms.IsNil(f.Kids[2]) {
		r.fail(at, api.ErrForm)
	}
	x, e := number.Complex(f.Kids[0], f.Kids[1])
	if e != api.OK {
		r.fail(at, e)
	}
	return x, true
}

func (r *reading) array(at, n int) (api.Form, bool) {
	x, e := Array(n, r.form())
	if e != api.OK {
		r.fail(at, e)
	}
	return x, true
}

func (r *reading) with(at, _ int) (api.Form, bool) {
	return r.conditional(at, true)
}

func (r *reading) without(at, _ int) (api.Form, bool) {
	return r.conditional(at, false)
}

// conditional reads a feature expression and a form, which is left out if the feature is not as wanted.
func (r *reading) conditional(at int, wanted bool) (api.Form, bool) {
	forget := r.remember()
	pack := r.o.Package
	r.o.Package = "KEYWORD"
	expression := r.form()
	r.o.Package = pack
	is, e := feature(expression, r.has)
	if e != api.OK {
		r.fail(at, e)
	}
	forget()
	f := r.form()
	if is == wanted {
		return f, true
	}
	forget()
	return api.Form{}, false
}

// remember returns a function that forgets the symbols and the labels that were read since.
func (r *reading) remember() func() {
	labels, labelled, refs := maps.Clone(r.labels), r.labelled, len(r.refs)
	return func() {
		r.labels, r.labelled, r.refs = maps.Clone(labels), labelled, r.refs[:refs]
	}
}

func (r *reading) label(at, n int) (api.Form, bool) {
	if r.labels[n] {
		r.fail(at, api.ErrTwice)
	}
	r.labels[n] = true
	x := r.form()
	if x.Kind == api.FormRef || x.Kind == api.FormLabel {
		r.fail(at, forms.ErrLabel)
	}
	r.labelled++
	return api.Form{Kind: api.FormLabel, Text: strconv.Itoa(n), Kids: []api.Form{x}}, true
}

func (r *reading) reference(at, n int) (api.Form, bool) {
	if !r.labels[n] {
		r.fail(at, forms.ErrLabel)
	}
	return api.Form{Kind: api.FormRef, Text: strconv.Itoa(n)}, true
}
