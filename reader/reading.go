package reader

import (
	"strings"
	"unicode/utf8"

	"commonform/api"
	"commonform/forms"
	"commonform/number"
	"commonform/token"
)

// A failure is what reading panics with: an error and its place.
type failure struct {
	at int
	e  api.Errno
}

// guarded does something, and returns the failure with which this panics.
func guarded(do func()) (at int, e api.Errno) {
	defer func() {
		switch x := recover().(type) {
		case nil:
		case failure:
			at, e = x.at, x.e
		default:
			panic(x)
		}
	}()
	do()
	return 0, api.OK
}

// check returns the error of options, a text, and a place in it.
func check(o Options, s string, at int) api.Errno {
	if e := Check(o); e != api.OK {
		return e
	}
	// Where has the errors of a text and a place in it.
	_, e := token.Where(s, at)
	return e
}

// A reading goes through a text.
type reading struct {
	o        Options
	s        string
	at       int
	depth    int // the forms that were begun
	level    int // the backquotes that are open
	labels   map[int]bool
	labelled int // the FormLabels that were made
	refs     []Reference
	has      func(name string) bool
	macros   map[rune]func(r *reading, at int) (api.Form, bool)
	hashes   map[rune]hash
}

// newReading returns a reading from a place on, without errors in its options.
func newReading(o Options, s string, at int) *reading {
	return &reading{o: o, s: s, at: at, labels: map[int]bool{}, has: oneOf(o.Features), macros: macros(), hashes: hashes()}
}

// fail ends the reading with an error, whose place is the end if the text ends too early.
func (r *reading) fail(at int, e api.Errno) {
	if e == api.ErrEnd {
		at = len(r.s)
	}
	panic(failure{at, e})
}

func (r *reading) atEnd() bool {
	return r.at == len(r.s)
}

// char returns the character ahead, and how many bytes it has; there has to be one.
func (r *reading) char() (rune, int) {
	return utf8.DecodeRuneInString(r.s[r.at:])
}

// take returns the character ahead, and goes behind it.
func (r *reading) take() rune {
	if r.atEnd() {
		r.fail(r.at, api.ErrEnd)
	}
	c, size := r.char()
	r.at += size
	return c
}

func (r *reading) kind(c rune) int {
	kind, _ := token.Kind(r.o.Table, c)
	return kind
}

// isMacro reports whether a text is ahead that begins with a macro character.
func (r *reading) isMacro(text string) bool {
	if !strings.HasPrefix(r.s[r.at:], text) {
		return false
	}
	kind := r.kind(rune(text[0]))
	return kind == token.Terminating || kind == token.Nonterminating
}

// beginsToken reports whether a token begins with the character ahead, if there is one.
func (r *reading) beginsToken() bool {
	if r.atEnd() {
		return false
	}
	c, _ := r.char()
	switch r.kind(c) {
	case token.Constituent, token.Single, token.Multiple:
		return true
	}
	return false
}

// next reads the token that begins here; its errors have a place.
func (r *reading) next(t token.Table, place int) token.Token {
	x, end, e := token.Next(t, r.s, r.at)
	if e != api.OK {
		r.fail(place, e)
	}
	r.at = end
	return x
}

// blank goes behind white characters and comments.
func (r *reading) blank() {
comments:
	for {
		r.at, _ = token.Skip(r.o.Table, r.s, r.at)
		switch {
		case r.isMacro(";"):
			n := strings.IndexByte(r.s[r.at:], '\n')
			if n < 0 {
				n = len(r.s) - r.at
			}
			r.at += n
		case r.isMacro("#|"):
			r.comment()
		default:
			break comments
		}
	}
}

// comment goes behind a comment, with those that are open in it.
func (r *reading) comment() {
	r.at += len("#|")
	for open := 1; open > 0; {
		rest := r.s[r.at:]
		switch {
		case strings.HasPrefix(rest, "|#"):
			r.at += len("|#")
			open--
		case strings.HasPrefix(rest, "#|"):
			r.at += len("#|")
			open++
		default:
			r.take()
		}
	}
}

// result reads a form at the top.
func (r *reading) result() Result {
	for {
		r.blank()
		if r.atEnd() {
			r.fail(r.at, api.ErrNone)
		}
		from := r.at
		f, is := r.begin()
		if !is {
			continue
		}
		if forms.Check(f) == api.ErrSize {
			r.fail(from, api.ErrSize)
		}
		return Result{copied(f), r.refs, from, r.at}
	}
}

// form reads a form within another one.
func (r *reading) form() api.Form {
	for {
		r.blank()
		if r.atEnd() {
			r.fail(r.at, api.ErrEnd)
		}
		if f, is := r.begin(); is {
			return f
		}
	}
}

// begin reads the form that begins with the character ahead, which is neither white nor begins a comment; or leaves one out, and reports that there is none.
func (r *reading) begin() (api.Form, bool) {
	at := r.at
	if r.depth == api.MaxDepth {
		r.fail(at, api.ErrSize)
	}
	if r.beginsToken() {
		return r.token(), true
	}
	c := r.take()
	if r.kind(c) == token.Invalid {
		r.fail(at, token.ErrInvalid)
	}
	read, some := r.macros[c]
	if !some {
		r.fail(at, ErrMacro)
	}
	r.depth++
	f, is := read(r, at)
	r.depth--
	return f, is
}

// token reads a number or a symbol.
func (r *reading) token() api.Form {
	at := r.at
	x := r.next(r.o.Table, at)
	if !x.Escapes {
		f, e := number.Read(token.Text(x), r.o.Base, r.o.Double)
		switch e {
		case api.OK:
			return f
		case api.ErrForm: // a symbol
		default:
			r.fail(at, e)
		}
	}
	n, e := token.Split(x)
	if e != api.OK {
		r.fail(at, e)
	}
	home := n.Package
	switch n.Kind {
	case token.Symbol:
		home = r.o.Package
	case token.Keyword:
		home = "KEYWORD"
	}
	r.refs = append(r.refs, Reference{home, n.Name, n.Kind == token.External, at})
	return forms.Symbol(home, n.Name)
}

// copied returns a form in memory of its own.
func copied(f api.Form) api.Form {
	return forms.Dotted(nil, f)
}

// dotted returns a list with a tail. The elements stay where they are: a vector that repeats them may stand for more nodes than could be copied.
func dotted(l []api.Form, tail api.Form) api.Form {
	switch {
	case len(l) == 0:
		return tail
	case tail.Kind == api.FormCons:
		return api.Form{Kind: api.FormCons, Kids: append(l, tail.Kids...)}
	}
	return api.Form{Kind: api.FormCons, Kids: append(l, tail)}
}
