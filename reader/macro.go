package reader

import (
	"strings"

	"commonform/api"
	"commonform/forms"
	"commonform/token"
)

// macros returns what reads on behind each macro character, whose place it is told. It reports whether there is a form.
func macros() map[rune]func(r *reading, at int) (api.Form, bool) {
	return map[rune]func(r *reading, at int) (api.Form, bool){
		'"':  (*reading).text,
		'\'': (*reading).quote,
		'(':  (*reading).list,
		')':  (*reading).bracket,
		'`':  (*reading).backquote,
		',':  (*reading).comma,
		'#':  (*reading).hash,
	}
}

// marked reads a form, and returns the list of a symbol and it.
func (r *reading) marked(home, name string) api.Form {
	return dotted([]api.Form{forms.Symbol(home, name), r.form()}, forms.Nil())
}

func (r *reading) text(int) (api.Form, bool) {
	b := strings.Builder{}
	for {
		c := r.take()
		switch {
		case c == '"':
			return api.Form{Kind: api.FormString, Text: b.String()}, true
		case r.kind(c) == token.Single:
			c = r.take()
		}
		b.WriteRune(c)
	}
}

func (r *reading) quote(int) (api.Form, bool) {
	return r.marked("COMMON-LISP", "QUOTE"), true
}

func (r *reading) backquote(int) (api.Form, bool) {
	r.level++
	f := r.marked("READER", "BACKQUOTE")
	r.level--
	return f, true
}

func (r *reading) comma(at int) (api.Form, bool) {
	if r.level == 0 {
		r.fail(at, ErrComma)
	}
	name := "COMMA"
	if strings.HasPrefix(r.s[r.at:], "@") {
		r.at++
		name = "SPLICE"
	}
	r.level--
	f := r.marked("READER", name)
	r.level++
	return f, true
}

func (r *reading) bracket(at int) (api.Form, bool) {
	r.fail(at, ErrClose)
	return api.Form{}, false
}

func (r *reading) list(int) (api.Form, bool) {
	x := r.elements(true)
	return dotted(x.forms, x.tail), true
}

// A row has the elements of a list, its tail, and whether there is a label in the last element.
type row struct {
	forms      []api.Form
	tail       api.Form
	isLabelled bool
}

// elements reads the elements of a list up to its bracket, and a tail, if it may have one.
func (r *reading) elements(mayHaveTail bool) row {
	x := row{tail: forms.Nil()}
	for {
		r.blank()
		switch {
		case r.atEnd():
			r.fail(r.at, api.ErrEnd)
		case r.isMacro(")"):
			r.at++
			return x
		case r.isDot():
			if len(x.forms) == 0 || !mayHaveTail {
				r.fail(r.at, ErrDot)
			}
			x.tail = r.tail()
			return x
		}
		before := r.labelled
		if f, is := r.begin(); is {
			x.forms = append(x.forms, f)
			x.isLabelled = r.labelled > before
		}
	}
}

// isDot reports whether a token of one dot is ahead.
func (r *reading) isDot() bool {
	if !strings.HasPrefix(r.s[r.at:], ".") || !r.beginsToken() {
		return false
	}
	x, _, e := token.Next(r.o.Table, r.s, r.at)
	return e == api.OK && token.Dots(x) == 1
}

// tail reads a dot, the tail of a list, and its bracket.
func (r *reading) tail() api.Form {
	dot := r.at
	r.at++
	f := r.form()
	r.blank()
	switch {
	case r.atEnd():
		r.fail(r.at, api.ErrEnd)
	case !r.isMacro(")"):
		r.fail(dot, ErrDot)
	}
	r.at++
	return f
}
