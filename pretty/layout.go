package pretty

import (
	"iter"
	"slices"
	"strconv"
	"strings"

	"commonform/api"
	"commonform/forms"
	"commonform/printer"
)

// Styles returns the usual styles.
func Styles() []Style {
	return []Style{
		{"DEFUN", 2}, {"DEFMACRO", 2}, {"LAMBDA", 1}, {"LET", 1}, {"LET*", 1}, {"FLET", 1}, {"LABELS", 1},
		{"MACROLET", 1}, {"SYMBOL-MACROLET", 1}, {"WHEN", 1}, {"UNLESS", 1}, {"DOLIST", 1}, {"DOTIMES", 1},
		{"BLOCK", 1}, {"CATCH", 1}, {"EVAL-WHEN", 1}, {"HANDLER-BIND", 1}, {"PROGN", 0}, {"UNWIND-PROTECT", 1},
		{"MULTIPLE-VALUE-BIND", 2}, {"DESTRUCTURING-BIND", 2}, {"DEFCLASS", 2}, {"CASE", 1}, {"COND", 0}, {"IF", 1},
	}
}

// Print returns the text of a form in lines of a width.
func Print(o printer.Options, f api.Form, width, miser int) (string, api.Errno) {
	l, e := Layout(o, Styles(), f)
	if e != api.OK {
		return "", e
	}
	return Render(l, width, miser)
}

// Layout returns the operations for a form.
func Layout(o printer.Options, styles []Style, f api.Form) ([]Op, api.Errno) {
	if e := printer.Check(o); e != api.OK {
		return nil, e
	}
	if len(styles) > maxStyles {
		return nil, api.ErrSize
	}
	for _, x := range styles {
		if x.Args < 0 || x.Args > maxArgs {
			return nil, api.ErrArg
		}
	}
	if _, e := printer.Print(o, f); e != api.OK {
		return nil, e
	}
	take := forms.Plain
	if o.Circle {
		take = forms.Normal
	}
	object, _ := take(f)
	d := &draft{o: o, styles: styles}
	d.form(object, 0, 0)
	if e := Check(d.ops); e != api.OK {
		return nil, e
	}
	return d.ops, api.OK
}

// A draft is what was laid out so far of a form that can be printed.
type draft struct {
	o      printer.Options
	styles []Style
	ops    []Op
}

func (d *draft) add(l ...Op) {
	d.ops = append(d.ops, l...)
}

func (d *draft) text(s string) {
	d.add(Op{Kind: Text, Text: s})
}

// isAtom reports whether a form is written without others within it.
func isAtom(f api.Form) bool {
	switch f.Kind {
	case api.FormSymbol, api.FormChar, api.FormString, api.FormBits:
		return true
	}
	return forms.Number(f)
}

func (d *draft) atom(f api.Form) string {
	text, _ := printer.Print(d.o, f)
	return text
}

// form lays out a form in a level of lists and in a depth of backquotes.
func (d *draft) form(f api.Form, level, depth int) {
	switch f.Kind {
	case api.FormLabel:
		d.text("#" + f.Text + "=")
		d.form(f.Kids[0], level, depth)
	case api.FormRef:
		d.text("#" + f.Text + "#")
	case api.FormVector:
		d.vector(f, level, depth)
	case api.FormArray:
		d.array(f, level, depth)
	case api.FormCons:
		if mark, inner := d.abbreviation(f, depth); mark != "" {
			d.text(mark)
			d.form(f.Kids[1], level, inner)
			return
		}
		d.list(f, level, depth)
	default:
		d.text(d.atom(f))
	}
}

// abbreviation returns the characters in front of the second element of a list that is abbreviated, and the depth of backquotes of this.
func (d *draft) abbreviation(f api.Form, depth int) (mark string, inner int) {
	if !d.o.Abbrev || len(f.Kids) != 3 || !forms.IsNil(f.Kids[2]) {
		return "", 0
	}
	head := f.Kids[0]
	switch {
	case forms.Is(head, "COMMON-LISP", "QUOTE"):
		return "'", depth
	case forms.Is(head, "COMMON-LISP", "FUNCTION"):
		return "#'", depth
	case forms.Is(head, "READER", "BACKQUOTE"):
		return "`", depth + 1
	case forms.Is(head, "READER", "SPLICE") && depth > 0:
		return ",@", depth - 1
	case !forms.Is(head, "READER", "COMMA") || depth == 0:
		return "", 0
	case isAtom(f.Kids[1]) && strings.HasPrefix(d.atom(f.Kids[1]), "@"):
		return ", ", depth - 1
	}
	return ",", depth - 1
}

// A manner says what stands between the elements of a list.
type manner struct {
	newline  int // the kind of most newlines
	isCall   bool
	isStyled bool
	args     int // of the style
}

// between lays out what stands between the element i and the next one.
func (d *draft) between(m manner, i int) {
	d.text(" ")
	isBody := m.isStyled && i >= m.args
	switch {
	case m.isStyled && i == 0:
		d.add(Op{Kind: Indent, N: 3})
	case m.isCall && i == 0:
		d.add(Op{Kind: Indent, Flag: true})
	}
	switch {
	case isBody:
		d.add(Op{Kind: Indent, N: 1}, Op{Kind: Newline, N: m.newline})
	case m.isCall && i == 0: // the first argument stays behind the operator
	case m.isStyled:
		d.add(Op{Kind: Newline, N: Fill})
	default:
		d.add(Op{Kind: Newline, N: m.newline})
	}
}

// lay lays out a list, as far as the limits let it; an end that is not nil counts as an element.
func lay[T any](d *draft, open string, m manner, elements iter.Seq2[int, T], part func(T), end func()) {
	d.add(Op{Kind: Open, Text: open})
	n := 0
	for i, x := range elements {
		if i > 0 {
			d.between(m, i-1)
		}
		if i == d.o.Length {
			d.text("...")
			end = nil
			break
		}
		part(x)
		n++
	}
	if end != nil {
		d.between(m, n-1)
		end()
	}
	d.add(Op{Kind: Close, Text: ")"})
}

func (d *draft) vector(f api.Form, level, depth int) {
	switch {
	case !d.o.Array:
		d.text("#<VECTOR>")
		return
	case level == d.o.Level:
		d.text("#")
		return
	}
	part := func(x api.Form) { d.form(x, level+1, depth) }
	lay(d, "#(", manner{newline: Fill}, slices.All(f.Kids), part, nil)
}

// mannerOf returns the manner of a list with a first element.
func (d *draft) mannerOf(head api.Form) manner {
	if head.Kind != api.FormSymbol {
		return manner{newline: Fill}
	}
	m := manner{newline: Linear, isCall: true}
	for _, x := range d.styles {
		if forms.Is(head, "COMMON-LISP", x.Name) {
			m.isStyled, m.args = true, x.Args
			break
		}
	}
	return m
}

func (d *draft) list(f api.Form, level, depth int) {
	if level == d.o.Level {
		d.text("#")
		return
	}
	last := len(f.Kids) - 1
	part := func(x api.Form) { d.form(x, level+1, depth) }
	var end func()
	if tail := f.Kids[last]; !forms.IsNil(tail) {
		end = func() {
			d.text(". ")
			part(tail)
		}
	}
	lay(d, "(", d.mannerOf(f.Kids[0]), slices.All(f.Kids[:last]), part, end)
}

// Contents of an array have further dimensions, and their elements in row-major order.
type contents struct {
	dimensions []int
	kids       []api.Form
}

// rows yields the contents for each index of the first dimension.
func (c contents) rows() iter.Seq2[int, contents] {
	return func(yield func(int, contents) bool) {
		n := c.dimensions[0]
		for i := range n {
			from, to := i*len(c.kids)/n, (i+1)*len(c.kids)/n
			if !yield(i, contents{c.dimensions[1:], c.kids[from:to]}) {
				return
			}
		}
	}
}

func (d *draft) array(f api.Form, level, depth int) {
	c := contents{kids: f.Kids}
	for _, word := range strings.Fields(f.Text) {
		n, _ := strconv.Atoi(word)
		c.dimensions = append(c.dimensions, n)
	}
	prefix := "#" + strconv.Itoa(len(c.dimensions)) + "A"
	switch {
	case !d.o.Array:
		d.text("#<ARRAY>")
	case len(c.dimensions) == 0:
		d.text(prefix)
		d.form(f.Kids[0], level, depth)
	case level == d.o.Level:
		d.text(prefix + "#")
	default:
		d.contents(prefix+"(", c, level, depth)
	}
}

// contents lays out the contents of an array; without dimensions they are its element.
func (d *draft) contents(open string, c contents, level, depth int) {
	switch {
	case len(c.dimensions) == 0:
		d.form(c.kids[0], level, depth)
	case level == d.o.Level:
		d.text("#")
	default:
		part := func(row contents) { d.contents("(", row, level+1, depth) }
		lay(d, open, manner{newline: Fill}, c.rows(), part, nil)
	}
}
