package printer

import (
	"iter"
	"slices"
	"strconv"
	"strings"

	"commonform/api"
	"commonform/forms"
	"commonform/token"
)

// Print returns the text of a form.
func Print(o Options, f api.Form) (string, api.Errno) {
	if e := Check(o); e != api.OK {
		return "", e
	}
	if e := forms.Check(f); e != api.OK {
		return "", e
	}
	if o.Readable && !isReadable(o.Table) {
		return "", ErrReadable
	}
	take := forms.Plain
	if o.Circle {
		take = forms.Normal
	}
	object, e := take(f)
	if e != api.OK {
		return "", e
	}
	return write(o, object)
}

// isReadable reports whether all characters on which the texts of forms rest have their standard kinds.
func isReadable(t token.Table) bool {
	return !slices.ContainsFunc(t.Entries, func(x token.Entry) bool {
		switch token.Standard(x.Char) {
		case token.Terminating, token.Nonterminating, token.White:
			return true
		}
		c := x.Char
		return c >= 'a' && c <= 'z' || c >= 'A' && c <= 'Z' || c >= '0' && c <= '9' || strings.ContainsRune(".:+-/", c)
	})
}

// Text returns the text of a form with the usual options, with or without escapes.
func Text(f api.Form, escape bool) (string, api.Errno) {
	o := Standard("COMMON-LISP-USER")
	o.Uses = []string{"COMMON-LISP"}
	o.Circle = true
	o.Escape = escape
	return Print(o, f)
}

// Lines returns the texts of forms, each with a line feed behind it.
func Lines(o Options, l []api.Form) (string, api.Errno) {
	if e := Check(o); e != api.OK {
		return "", e
	}
	b := strings.Builder{}
	isTooLong := false
	for _, f := range l {
		text, e := Print(o, f)
		if e != api.OK {
			return "", e
		}
		if b.Len()+len(text)+1 > maxText {
			// The errors of the forms behind come first.
			isTooLong = true
			continue
		}
		b.WriteString(text)
		b.WriteByte('\n')
	}
	if isTooLong {
		return "", api.ErrLarge
	}
	return b.String(), api.OK
}

// A writer makes the text of a form, and panics with the first error.
type writer struct {
	o Options
	b strings.Builder
}

// write returns the text of a form without an error that is Normal or Plain.
func write(o Options, f api.Form) (text string, e api.Errno) {
	w := &writer{o: o}
	defer func() {
		switch x := recover().(type) {
		case nil:
		case api.Errno:
			text, e = "", x
		default:
			panic(x)
		}
	}()
	w.form(f, 0, 0)
	return w.b.String(), api.OK
}

func (w *writer) add(s string) {
	if w.b.Len()+len(s) > maxText {
		panic(api.ErrLarge)
	}
	w.b.WriteString(s)
}

func (w *writer) atom(f api.Form) string {
	text, e := atom(w.o, f)
	if e != api.OK {
		panic(e)
	}
	return text
}

// form writes a form in a level of lists and in a depth of backquotes.
func (w *writer) form(f api.Form, level, depth int) {
kinds:
	switch f.Kind {
	case api.FormLabel:
		w.add("#" + f.Text + "=")
		w.form(f.Kids[0], level, depth)
	case api.FormRef:
		w.add("#" + f.Text + "#")
	case api.FormVector:
		if w.isHidden("#<VECTOR>") {
			break kinds
		}
		listed(w, "#(", level, slices.All(f.Kids), func(_ int, x api.Form) { w.form(x, level+1, depth) })
	case api.FormArray:
		if w.isHidden("#<ARRAY>") {
			break kinds
		}
		w.array(f, level, depth)
	case api.FormCons:
		if w.o.Abbrev {
			if mark, inner := abbreviation(f, depth); mark != "" {
				w.abbreviated(mark, f.Kids[1], level, inner)
				break kinds
			}
		}
		w.list(f, level, depth)
	default:
		w.add(w.atom(f))
	}
}

// isHidden writes a text that stands for an array, unless arrays are written.
func (w *writer) isHidden(text string) bool {
	switch {
	case w.o.Array:
		return false
	case w.o.Readable:
		panic(ErrReadable)
	}
	w.add(text)
	return true
}

// abbreviation returns the characters in front of the second element of a list that may be abbreviated, and the depth of backquotes of this.
func abbreviation(f api.Form, depth int) (mark string, inner int) {
	if len(f.Kids) != 3 || !forms.IsNil(f.Kids[2]) {
		return "", 0
	}
	head := f.Kids[0]
	switch {
	case forms.Is(head, "COMMON-LISP", "QUOTE"):
		return "'", depth
	case forms.Is(head, "COMMON-LISP", "FUNCTION"):
		return "#'", depth
	case forms.Is(head, "READER", "BACKQUOTE"):
		return "`", depth + 1
	case forms.Is(head, "READER", "COMMA") && depth > 0:
		return ",", depth - 1
	case forms.Is(head, "READER", "SPLICE") && depth > 0:
		return ",@", depth - 1
	}
	return "", 0
}

func (w *writer) abbreviated(mark string, f api.Form, level, depth int) {
	w.add(mark)
	if mark != "," || !isAtom(f) {
		w.form(f, level, depth)
		return
	}
	text := w.atom(f)
	if strings.HasPrefix(text, "@") {
		w.add(" ") // otherwise the comma would be read with it
	}
	w.add(text)
}

// listed writes a list, as far as the limits let it.
func listed[T any](w *writer, open string, level int, elements iter.Seq2[int, T], write func(int, T)) {
	if level == w.o.Level {
		w.add("#")
		return
	}
	w.add(open)
	for i, x := range elements {
		if i > 0 {
			w.add(" ")
		}
		if i == w.o.Length {
			w.add("...")
			break
		}
		write(i, x)
	}
	w.add(")")
}

// list writes a list with its tail, which no limit of length counts: it ends the last element.
func (w *writer) list(f api.Form, level, depth int) {
	last := len(f.Kids) - 1
	tail := f.Kids[last]
	listed(w, "(", level, slices.All(f.Kids[:last]), func(i int, x api.Form) {
		w.form(x, level+1, depth)
		if i == last-1 && !forms.IsNil(tail) {
			w.add(" . ")
			w.form(tail, level+1, depth)
		}
	})
}

// A part of an array has further dimensions, and their elements in row-major order.
type part struct {
	dimensions []int
	kids       []api.Form
}

// rows yields the parts for each index of the first dimension.
func (p part) rows() iter.Seq2[int, part] {
	return func(yield func(int, part) bool) {
		n := p.dimensions[0]
		for i := range n {
			from, to := i*len(p.kids)/n, (i+1)*len(p.kids)/n
			if !yield(i, part{p.dimensions[1:], p.kids[from:to]}) {
				return
			}
		}
	}
}

func (w *writer) array(f api.Form, level, depth int) {
	p := part{kids: f.Kids}
	for _, word := range strings.Fields(f.Text) {
		n, _ := strconv.Atoi(word)
		p.dimensions = append(p.dimensions, n)
	}
	if i := slices.Index(p.dimensions, 0); w.o.Readable && i >= 0 && slices.ContainsFunc(p.dimensions[i:], func(n int) bool { return n != 0 }) {
		panic(ErrReadable)
	}
	w.add("#" + strconv.Itoa(len(p.dimensions)) + "A")
	w.contents(p, level, depth)
}

// contents writes the contents of an array; without dimensions they are its element.
func (w *writer) contents(p part, level, depth int) {
	if len(p.dimensions) == 0 {
		w.form(p.kids[0], level, depth)
		return
	}
	listed(w, "(", level, p.rows(), func(_ int, row part) { w.contents(row, level+1, depth) })
}
