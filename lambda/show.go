package lambda

import (
	"slices"

	"commonform/api"
	"commonform/forms"
)

// Show returns a lambda list.
func Show(l List) (api.Form, api.Errno) {
	if _, ok := l.variables(); !ok {
		return api.Form{}, api.ErrForm
	}
	// A tail is shorter than &REST, so that it may be all for which there is room; but only a macro has one.
	for _, short := range []bool{false, true} {
		f := l.form(short)
		if back, e := Parse(f, true); e == api.OK && same(back, l) {
			return f, api.OK
		}
	}
	return api.Form{}, api.ErrForm
}

// A writer writes the elements of a lambda list.
type writer struct {
	elements []api.Form
	group    int  // the kind of the items that stand behind the last marker of a group
	ended    bool // what is to be said of keys was written
}

func (w *writer) marker(name string) {
	w.elements = append(w.elements, forms.Symbol(lisp, name))
}

// form writes a list as short as it goes, patterns with tails, and itself with one if short is set.
func (l List) form(short bool) api.Form {
	w := &writer{group: Required}
	for i, item := range l.Items {
		isLast := i == len(l.Items)-1 && !l.Keys
		if short && isLast && item.Kind == Rest && len(w.elements) > 0 {
			return forms.Dotted(w.elements, item.Var)
		}
		w.begin(l, item.Kind)
		w.elements = append(w.elements, item.form())
	}
	w.endKeys(l)
	return forms.List(w.elements)
}

// begin writes the markers that stand ahead of an item.
func (w *writer) begin(l List, kind int) {
	switch kind {
	case Whole:
		w.marker("&WHOLE")
	case Environment:
		w.marker("&ENVIRONMENT")
	case Aux:
		w.endKeys(l)
		w.enter(kind, "&AUX")
	case Optional:
		w.enter(kind, "&OPTIONAL")
	case Rest:
		w.enter(kind, "&REST")
	case Key:
		w.enter(kind, "&KEY")
	}
}

// enter begins a group, unless it was begun.
func (w *writer) enter(group int, name string) {
	if w.group != group {
		w.marker(name)
	}
	w.group = group
}

// endKeys writes what is said of keys behind their parameters.
func (w *writer) endKeys(l List) {
	if !l.Keys || w.ended {
		return
	}
	w.ended = true
	w.enter(Key, "&KEY")
	if l.Allow {
		w.marker("&ALLOW-OTHER-KEYS")
	}
}

// form writes a parameter as short as it goes.
func (item Item) form() api.Form {
	target := item.Var
	if item.Pattern != nil {
		target = item.Pattern.form(true)
	}
	isPlain := item.Pattern == nil && isVariable(item.Var)
	if item.Kind == Key && !(isPlain && forms.Equal(item.Key, forms.Symbol(keywords, item.Var.Text))) {
		target, isPlain = forms.List([]api.Form{item.Key, target}), false
	}
	if item.Kind != Optional && item.Kind != Key && item.Kind != Aux {
		return target
	}
	elements := []api.Form{target}
	if !forms.IsNil(item.Init) || isThere(item.Given) {
		elements = append(elements, item.Init)
	}
	if isThere(item.Given) {
		elements = append(elements, item.Given)
	}
	if isPlain && len(elements) == 1 {
		return target
	}
	return forms.List(elements)
}

// same reports whether two lists say the same.
func same(a, b List) bool {
	return a.Keys == b.Keys && a.Allow == b.Allow && slices.EqualFunc(a.Items, b.Items, sameItem)
}

func sameItem(a, b Item) bool {
	if (a.Pattern == nil) != (b.Pattern == nil) || a.Pattern != nil && !same(*a.Pattern, *b.Pattern) {
		return false
	}
	return a.Kind == b.Kind && forms.Equal(a.Var, b.Var) && forms.Equal(a.Init, b.Init) && forms.Equal(a.Given, b.Given) && forms.Equal(a.Key, b.Key)
}
