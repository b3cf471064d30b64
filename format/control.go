package format

import (
	"strconv"
	"strings"

	"commonform/api"
)

const (
	maxDigits = 9  // of a parameter
	maxNested = 20 // brackets, and control strings of ~?
)

// Kinds of parameters, as they stand in a control string.
const (
	empty    = iota
	integral // a number
	single   // a character
	taken    // v: an argument
	left     // #: the number of arguments that are left
)

// A parameter of a directive.
type parameter struct {
	kind, number int
	char         byte
}

// A directive of a control string, or a text, whose char is 0.
type directive struct {
	char       byte
	text       string
	parameters []parameter
	colon, at  bool
	parts      [][]directive // of a bracket
	bare       bool          // nothing stands between the brackets
	otherwise  bool          // the last part of ~[ is for all numbers without a part of their own
	once       bool          // ~} has a colon
}

// read returns the directives of a control string, and its error.
func read(control string) ([]directive, api.Errno) {
	if len(control) > api.MaxSource {
		return nil, api.ErrSize
	}
	p := &parser{s: control}
	var whole directive
	if e := guarded(func() { p.parts(&whole, false, 0) }); e != api.OK {
		return nil, e
	}
	return whole.parts[0], api.OK
}

// A parser reads a control string. It panics with ErrForm.
type parser struct {
	s  string
	at int
}

func need(holds bool) {
	if !holds {
		panic(api.ErrForm)
	}
}

// has reports whether a character is next.
func (p *parser) has(c byte) bool {
	return p.at < len(p.s) && p.s[p.at] == c
}

// take returns the next character.
func (p *parser) take() byte {
	need(p.at < len(p.s))
	c := p.s[p.at]
	p.at++
	return c
}

// parts reads what stands in a bracket, up to its end, or the whole string for a directive that is none. It is told whether it stands directly in a ~{ with colon, but for ~( and ~[.
func (p *parser) parts(open *directive, inLists bool, depth int) {
	need(depth <= maxNested)
	begin := p.at
	var part []directive
	for p.at < len(p.s) {
		if text, _, _ := strings.Cut(p.s[p.at:], "~"); text != "" {
			p.at += len(text)
			part = append(part, directive{text: text})
			continue
		}
		end := p.at
		d := p.directive()
		switch d.char {
		case ';':
			need(open.char == '[' || open.char == '<')
			need(!open.otherwise && (!d.colon || open.char == '[' && !open.colon && !open.at))
			open.otherwise = d.colon
			open.parts = append(open.parts, part)
			part = nil
		case ')', ']', '}', '>':
			need(open.char != 0 && d.char == closing(open.char))
			open.bare, open.once = end == begin, d.colon
			open.parts = append(open.parts, part)
			return
		default:
			p.bracket(&d, inLists, depth)
			part = append(part, d)
		}
	}
	need(open.char == 0)
	open.parts = append(open.parts, part)
}

// closing returns the character that ends a bracket.
func closing(open byte) byte {
	switch open {
	case '(':
		return ')'
	case '[':
		return ']'
	case '{':
		return '}'
	}
	return '>'
}

// bracket reads what stands in a directive, if it is a bracket, and looks at what depends on where it stands, or how many parts it has.
func (p *parser) bracket(d *directive, inLists bool, depth int) {
	switch d.char {
	case '^':
		need(!d.colon || inLists)
	case '(':
		p.parts(d, inLists, depth+1)
	case '{':
		p.parts(d, d.colon, depth+1)
	case '<':
		p.parts(d, false, depth+1)
	case '[':
		p.parts(d, inLists, depth+1)
		need(!d.colon || !d.at && len(d.parts) == 2)
		need(!d.at || len(d.parts) == 1)
	}
}

// directive reads a directive without what stands in it.
func (p *parser) directive() directive {
	p.take() // the ~
	d := directive{parameters: p.parameters()}
	for p.has(':') || p.has('@') {
		sign := &d.colon
		if p.take() == '@' {
			sign = &d.at
		}
		need(!*sign)
		*sign = true
	}
	d.char = great(p.take())
	most, some := mostParameters(d.char)
	need(some && len(d.parameters) <= most)
	switch d.char {
	case 'T':
		need(!d.colon)
	case '*':
		need(!d.colon || !d.at)
	case '\n':
		p.pass(&d)
	}
	return d
}

// mostParameters returns how many parameters a directive may have, and whether there is one with this character.
func mostParameters(c byte) (int, bool) {
	switch c {
	case 'R', 'F':
		return 5, true
	case 'A', 'S', 'D', 'B', 'O', 'X', '$', '<':
		return 4, true
	case '^':
		return 3, true
	case 'T':
		return 2, true
	case '%', '|', '~', '&', '*', '[', '{':
		return 1, true
	case 'C', 'P', '\n', '?', '(', ')', ']', '}', '>', ';':
		return 0, true
	}
	return 0, false
}

// pass leaves out the spaces and tabs behind ~ and a line feed.
func (p *parser) pass(d *directive) {
	for !d.colon && (p.has(' ') || p.has('\t')) {
		p.at++
	}
}

// parameters reads the parameters of a directive: one more than there are commas, if there are any.
func (p *parser) parameters() []parameter {
	var l []parameter
	for {
		x := p.parameter()
		if !p.has(',') {
			if x.kind != empty || len(l) > 0 {
				l = append(l, x)
			}
			return l
		}
		p.at++
		l = append(l, x)
	}
}

// parameter reads a parameter, which may be empty.
func (p *parser) parameter() parameter {
	switch {
	case p.at == len(p.s):
		return parameter{}
	case p.has('\''):
		p.at++
		return parameter{kind: single, char: p.take()}
	case p.has('v') || p.has('V'):
		p.at++
		return parameter{kind: taken}
	case p.has('#'):
		p.at++
		return parameter{kind: left}
	case p.has('+') || p.has('-') || isDigit(p.s[p.at]):
		return parameter{kind: integral, number: p.integer()}
	}
	return parameter{}
}

// integer reads an integer with a sign or none.
func (p *parser) integer() int {
	begin := p.at
	if !isDigit(p.s[p.at]) {
		p.at++
	}
	first := p.at
	for p.at < len(p.s) && isDigit(p.s[p.at]) {
		p.at++
	}
	need(p.at > first && p.at-first <= maxDigits)
	n, _ := strconv.Atoi(p.s[begin:p.at])
	return n
}
