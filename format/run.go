package format

import (
	"strconv"
	"strings"

	"commonform/api"
	"commonform/number"
)

const (
	maxPerformed = 10000
	maxTaken     = 1000000000 // of a parameter that is an argument, in absolute value
)

// A writer has what was put out, and knows the column.
type writer struct {
	strings.Builder
	column int
	ahead  int // bytes that count, and stand in other writers
}

// add puts out a text.
func (w *writer) add(s string) {
	if w.size()+len(s) > api.MaxOutput {
		panic(api.ErrFull)
	}
	w.WriteString(s)
	if line := strings.LastIndexByte(s, '\n'); line >= 0 {
		w.column = 0
		s = s[line+1:]
	}
	w.column += len(s)
}

func (w *writer) size() int {
	return w.ahead + w.Len()
}

// pads puts out a character several times, or not at all.
func (w *writer) pads(pad string, n int) {
	w.add(strings.Repeat(pad, max(0, n)))
}

// Arguments are taken from a list one after the other.
type arguments struct {
	list  []api.Form
	next  int
	lists *arguments // in a ~{ with colon: the lists, from which list was taken
}

func (a *arguments) left() int {
	return len(a.list) - a.next
}

func (a *arguments) take() api.Form {
	a.move(a.next + 1)
	return a.list[a.next-1]
}

// move goes to an argument, or to the place behind the last one.
func (a *arguments) move(to int) {
	if to < 0 || to > len(a.list) {
		panic(api.ErrNone)
	}
	a.next = to
}

// An ending says what a ~^ ended.
type ending int

const (
	goOn ending = iota
	ends
	endsAll // the whole of a ~{ with colon
)

// A run performs the directives of control strings. It panics with the first error.
type run struct {
	out       *writer
	methods   map[byte]method
	performed int
	nested    int // control strings of ~?
}

type method = func(*run, *call) ending

// methods returns the methods of directives by their characters.
func methods() map[byte]method {
	return map[byte]method{
		'A': (*run).aesthetic, 'S': (*run).standard, 'C': (*run).character, 'P': (*run).plural,
		'D': (*run).decimal, 'B': (*run).binary, 'O': (*run).octal, 'X': (*run).hexadecimal, 'R': (*run).radix,
		'F': (*run).fixed, '$': (*run).money,
		'%': (*run).lines, '|': (*run).pages, '~': (*run).tildes, '&': (*run).fresh, '\n': (*run).newline, 'T': (*run).tabulate,
		'*': (*run).jump, '?': (*run).recur, '^': (*run).escape,
		'(': (*run).cased, '[': (*run).choose, '{': (*run).iterate, '<': (*run).justify,
	}
}

// A call is a directive that is performed.
type call struct {
	directive
	arguments *arguments
	found     int // parameters
}

// count counts a directive that is performed, and what counts as one.
func (r *run) count() {
	r.performed++
	if r.performed > maxPerformed {
		panic(api.ErrFull)
	}
}

// perform performs directives one after the other, until a ~^ ends them.
func (r *run) perform(l []directive, a *arguments) ending {
	for _, d := range l {
		if d.char == 0 {
			r.out.add(d.text)
			continue
		}
		r.count()
		end := r.methods[d.char](r, &call{directive: d, arguments: a})
		if end != goOn {
			return end
		}
	}
	return goOn
}

// value returns the next parameter: an empty one, a number or a character.
func (c *call) value() parameter {
	if c.found == len(c.parameters) {
		return parameter{}
	}
	p := c.parameters[c.found]
	c.found++
	switch p.kind {
	case taken:
		return parameterOf(c.arguments.take())
	case left:
		return parameter{kind: integral, number: c.arguments.left()}
	}
	return p
}

// parameterOf returns the parameter that an argument is. For a number that is too long for Go any one does that is in no range.
func parameterOf(x api.Form) parameter {
	switch {
	case isNil(x):
		return parameter{}
	case x.Kind == api.FormChar && len(x.Text) == 1:
		return parameter{kind: single, char: x.Text[0]}
	case !isInteger(x):
		panic(api.ErrType)
	}
	n, err := strconv.Atoi(x.Text)
	if err != nil {
		n = maxTaken + 1
	}
	return parameter{kind: integral, number: n}
}

// number returns the next parameter, a number, or the usual one if it is empty.
func (c *call) number(usual, least, most int) int {
	p := c.value()
	switch {
	case p.kind == empty:
		return usual
	case p.kind != integral:
		panic(api.ErrType)
	case p.number < least || p.number > most:
		panic(api.ErrRange)
	}
	return p.number
}

// size returns the next parameter, a number of the usual range.
func (c *call) size(usual int) int {
	return c.number(usual, 0, maxNumber)
}

// character returns the next parameter, a character, or the usual text if it is empty.
func (c *call) character(usual string) string {
	p := c.value()
	switch p.kind {
	case empty:
		return usual
	case single:
		return string([]byte{p.char})
	}
	panic(api.ErrType)
}

// take returns the next argument.
func (c *call) take() api.Form {
	return c.arguments.take()
}

// takeReal returns the next argument, a real number.
func (c *call) takeReal() api.Form {
	x := c.take()
	if x.Kind == api.FormComplex || number.Check(x) != api.OK {
		panic(api.ErrType)
	}
	return x
}

// takeText returns the text of the next argument, a string.
func (c *call) takeText() string {
	x := c.take()
	if x.Kind != api.FormString {
		panic(api.ErrType)
	}
	return x.Text
}

// takeList returns the elements of the next argument, a proper list.
func (c *call) takeList() []api.Form {
	return elements(c.take())
}
