package core

import (
	"strconv"
	"strings"

	"commonform/api"
)

// maxText is how many bytes a text that is read may have.
const maxText = 20000

const digits = "0123456789abcdef"

// Show returns the text of a core tree.
func Show(c api.Core) (string, api.Errno) {
	if Check(c) != api.OK {
		return "", api.ErrForm
	}
	var b strings.Builder
	writeNode(&b, c)
	return b.String(), api.OK
}

func writeNode(b *strings.Builder, c api.Core) {
	l := layouts[c.Op]
	b.WriteString("(" + l.name)
	for _, field := range l.fields {
		writeField(b, c, field)
	}
	for _, k := range c.Kids {
		b.WriteString(" ")
		writeNode(b, k)
	}
	b.WriteString(")")
}

func writeField(b *strings.Builder, c api.Core, field rune) {
	switch field {
	case 'n':
		b.WriteString(" " + strconv.Itoa(c.N))
	case 'd':
		b.WriteString(" " + formText(c.Data))
	case 'v':
		b.WriteString(" [" + joined(c.Vars, strconv.Itoa) + "]")
	case 's':
		b.WriteString(" [" + joined(c.Syms, formText) + "]")
	case 'p':
		for _, p := range c.Pars {
			b.WriteString(" " + parameterText(p))
		}
	}
}

// joined returns the texts of elements with spaces between them.
func joined[T any](l []T, text func(T) string) string {
	var texts []string
	for _, x := range l {
		texts = append(texts, text(x))
	}
	return strings.Join(texts, " ")
}

func parameterText(p api.Param) string {
	key := "-"
	if p.Kind == api.ParamKey {
		key = formText(p.Key)
	}
	return "{" + joined([]int{p.Kind, p.Var, p.Given}, strconv.Itoa) + " " + key + "}"
}

// formText returns the text of a form.
func formText(f api.Form) string {
	s := strconv.Itoa(f.Kind) + ":" + escaped(f.Home) + ":" + escaped(f.Text)
	if len(f.Kids) > 0 {
		s += "(" + joined(f.Kids, formText) + ")"
	}
	return s
}

// isPlain reports whether a byte stands for itself.
func isPlain(c byte) bool {
	isLetter := c >= 'A' && c <= 'Z' || c >= 'a' && c <= 'z'
	return isLetter || c >= '0' && c <= '9' || strings.IndexByte("-*+/<>=%&", c) >= 0
}

func escaped(s string) string {
	var b strings.Builder
	for i := range len(s) {
		if c := s[i]; isPlain(c) {
			b.WriteByte(c)
		} else {
			b.WriteByte('~')
			b.WriteByte(digits[c>>4])
			b.WriteByte(digits[c&15])
		}
	}
	return b.String()
}

// Parse returns the core tree with a text.
func Parse(s string) (api.Core, api.Errno) {
	if len(s) > maxText {
		return api.Core{}, api.ErrSize
	}
	c, e := read(s)
	if e != api.OK {
		return api.Core{}, e
	}
	// What is read leniently is right only if it would be written so.
	if again, e := Show(c); e != api.OK || again != s {
		return api.Core{}, api.ErrForm
	}
	return c, api.OK
}

// A refusal is the panic of an error.
type refusal api.Errno

func refuse(e api.Errno) { panic(refusal(e)) }

// caught calls f, and returns the error with which it panics.
func caught(f func()) (e api.Errno) {
	defer func() {
		if x := recover(); x != nil {
			r, ok := x.(refusal)
			if !ok {
				panic(x)
			}
			e = api.Errno(r)
		}
	}()
	f()
	return api.OK
}

// A reader has the part of a text that is left.
type reader struct {
	left string
}

func read(s string) (c api.Core, e api.Errno) {
	r := &reader{s}
	e = caught(func() {
		c = r.node()
		if r.left != "" {
			refuse(api.ErrForm)
		}
	})
	return c, e
}

// skip passes what must come next.
func (r *reader) skip(s string) {
	if !r.has(s) {
		refuse(api.ErrForm)
	}
}

// has passes a text if it comes next.
func (r *reader) has(s string) bool {
	rest, ok := strings.CutPrefix(r.left, s)
	r.left = rest
	return ok
}

// word passes what stands up to the next sign of punctuation.
func (r *reader) word() string {
	end := 0
scan:
	for ; end < len(r.left); end++ {
		switch r.left[end] {
		case ' ', '(', ')', '[', ']', '{', '}', ':':
			break scan
		}
	}
	s := r.left[:end]
	r.left = r.left[end:]
	return s
}

func (r *reader) number() int {
	n, err := strconv.Atoi(r.word())
	if err != nil {
		refuse(api.ErrForm)
	}
	return n
}

func (r *reader) node() api.Core {
	r.skip("(")
	c := api.Core{Op: opOf(r.word())}
	for _, field := range layouts[c.Op].fields {
		r.field(&c, field)
	}
	for r.has(" ") {
		c.Kids = append(c.Kids, r.node())
	}
	r.skip(")")
	return c
}

func opOf(word string) int {
	for op, l := range layouts {
		if l.name == word && op > 0 {
			return op
		}
	}
	refuse(api.ErrForm)
	return 0
}

func (r *reader) field(c *api.Core, field rune) {
	switch field {
	case 'n':
		r.skip(" ")
		c.N = r.number()
	case 'd':
		r.skip(" ")
		c.Data = r.form()
	case 'v':
		c.Vars = list(r, r.number)
	case 's':
		c.Syms = list(r, r.form)
	case 'p':
		for r.has(" {") {
			c.Pars = append(c.Pars, r.parameter())
		}
	}
}

// list reads elements in brackets.
func list[T any](r *reader, element func() T) []T {
	var l []T
	r.skip(" [")
	for !r.has("]") {
		if len(l) > 0 {
			r.skip(" ")
		}
		l = append(l, element())
	}
	return l
}

// parameter reads a parameter behind its brace.
func (r *reader) parameter() api.Param {
	var p api.Param
	for _, n := range []*int{&p.Kind, &p.Var, &p.Given} {
		*n = r.number()
		r.skip(" ")
	}
	if !r.has("-") {
		p.Key = r.form()
	}
	r.skip("}")
	return p
}

func (r *reader) form() api.Form {
	var f api.Form
	f.Kind = r.number()
	r.skip(":")
	f.Home = unescaped(r.word())
	r.skip(":")
	f.Text = unescaped(r.word())
	if r.has("(") {
		f.Kids = append(f.Kids, r.form())
		for r.has(" ") {
			f.Kids = append(f.Kids, r.form())
		}
		r.skip(")")
	}
	return f
}

func unescaped(s string) string {
	var b strings.Builder
	for i := 0; i < len(s); i++ {
		if s[i] != '~' {
			b.WriteByte(s[i])
			continue
		}
		n, err := strconv.ParseUint(s[i+1:min(i+3, len(s))], 16, 8)
		if err != nil {
			refuse(api.ErrForm)
		}
		b.WriteByte(byte(n))
		i += 2
	}
	return b.String()
}
