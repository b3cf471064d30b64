// Package forms is about forms as plain trees: which trees are forms, lists and their tails, labels and references, and whether two forms are the same object. See shared/doc/01-forms.md.
package forms

import (
	"iter"
	"slices"

	"commonform/api"
)

// MaxRank is the greatest number of dimensions of an array.
const MaxRank = 7

// Codes of this layer.
const (
	ErrLabel  api.Errno = 30 // a reference to a label that is not there, or a label of nothing
	ErrCircle api.Errno = 31 // a form that comes back to itself
)

// walk yields the nodes of a tree in the order of the walk, each with its depth.
func walk(f api.Form) iter.Seq2[int, api.Form] {
	return func(yield func(int, api.Form) bool) {
		visit(f, 1, yield)
	}
}

// visit yields the nodes of a part, and reports whether to go on.
func visit(f api.Form, depth int, yield func(int, api.Form) bool) bool {
	if !yield(depth, f) {
		return false
	}
	for _, k := range f.Kids {
		if !visit(k, depth+1, yield) {
			return false
		}
	}
	return true
}

// Size returns the number of nodes of a form, and its depth.
func Size(f api.Form) (nodes, depth int) {
	for d := range walk(f) {
		nodes++
		depth = max(depth, d)
	}
	return nodes, depth
}

// Symbol returns a symbol.
func Symbol(home, name string) api.Form {
	return api.Form{Kind: api.FormSymbol, Text: name, Home: home}
}

// Nil returns NIL.
func Nil() api.Form {
	return Symbol("COMMON-LISP", "NIL")
}

// IsNil reports whether a form is NIL.
func IsNil(f api.Form) bool {
	return Is(f, "COMMON-LISP", "NIL")
}

// Is reports whether a form is a symbol.
func Is(f api.Form, home, name string) bool {
	return f.Kind == api.FormSymbol && f.Home == home && f.Text == name
}

// Number reports whether a form is a number.
func Number(f api.Form) bool {
	return isNumber(f.Kind)
}

func isNumber(kind int) bool {
	return kind >= api.FormInt && kind <= api.FormComplex
}

// Equal reports whether two forms are equal as trees.
func Equal(a, b api.Form) bool {
	return a.Kind == b.Kind && a.Text == b.Text && a.Home == b.Home && slices.EqualFunc(a.Kids, b.Kids, Equal)
}

// copied returns a form in memory of its own.
func copied(f api.Form) api.Form {
	f.Kids = copiedAll(f.Kids)
	return f
}

func copiedAll(l []api.Form) []api.Form {
	var kids []api.Form
	for _, k := range l {
		kids = append(kids, copied(k))
	}
	return kids
}

// List returns a proper list.
func List(l []api.Form) api.Form {
	return Dotted(l, Nil())
}

// Dotted returns a list with a tail.
func Dotted(l []api.Form, tail api.Form) api.Form {
	if len(l) == 0 {
		return copied(tail)
	}
	return cons(copiedAll(l), copied(tail))
}

// cons takes over the elements of a list, of which there is at least one, and its tail.
func cons(elements []api.Form, tail api.Form) api.Form {
	f := api.Form{Kind: api.FormCons, Kids: elements}
	if tail.Kind == api.FormCons {
		f.Kids = append(f.Kids, tail.Kids...)
	} else {
		f.Kids = append(f.Kids, tail)
	}
	return f
}

// Items returns the elements of a proper list.
func Items(f api.Form) ([]api.Form, bool) {
	l, tail := Spread(f)
	if !IsNil(tail) {
		return nil, false
	}
	return l, true
}

// Spread returns the elements of a list, and its tail.
func Spread(f api.Form) ([]api.Form, api.Form) {
	last := len(f.Kids) - 1
	if f.Kind != api.FormCons || last < 1 {
		return nil, copied(f)
	}
	return copiedAll(f.Kids[:last]), copied(f.Kids[last])
}

// Call returns the list of a symbol of COMMON-LISP and its arguments.
func Call(name string, l []api.Form) api.Form {
	elements := append([]api.Form{Symbol("COMMON-LISP", name)}, copiedAll(l)...)
	return cons(elements, Nil())
}
