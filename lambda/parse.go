package lambda

import (
	"commonform/api"
	"commonform/forms"
)

// States of reading: where in the order of groups the last element stood.
const (
	atStart = iota
	inRequired
	inOptional
	behindRest
	inKey
	behindAllow
	inAux
)

// A reader reads the elements of a lambda list one by one.
type reader struct {
	list         List
	macro, inner bool // inner: a pattern
	state        int
	wanted       int // the kind of the item whose marker was read, and whose variable comes next; 0 for none
	environment  bool
}

// Parse returns what a lambda list says.
func Parse(list api.Form, macro bool) (List, api.Errno) {
	if e := forms.Check(list); e != api.OK {
		return List{}, e
	}
	l, ok := read(list, macro, false)
	if !ok {
		return List{}, api.ErrForm
	}
	if l.hasTwice() {
		return List{}, api.ErrTwice
	}
	return l, api.OK
}

func read(f api.Form, macro, inner bool) (List, bool) {
	if !isList(f) {
		return List{}, false
	}
	r := &reader{macro: macro, inner: inner}
	elements, tail := forms.Spread(f)
	for _, x := range elements {
		if !r.element(x) {
			return List{}, false
		}
	}
	return r.list, r.wanted == 0 && r.tail(tail)
}

// tail reads the tail of a lambda list, which says what a variable behind &REST says.
func (r *reader) tail(f api.Form) bool {
	if forms.IsNil(f) {
		return true
	}
	return r.macro && r.state <= inOptional && r.variable(Rest, f)
}

func (r *reader) element(f api.Form) bool {
	switch {
	case r.wanted != 0:
		kind := r.wanted
		r.wanted = 0
		return r.variable(kind, f)
	case isMarker(f):
		return r.marker(f.Text)
	}
	return r.parameter(f)
}

// marker reads a marker, behind which another group, or a variable, stands.
func (r *reader) marker(name string) bool {
	switch name {
	case "&WHOLE":
		return r.isOutside() && r.state == atStart && r.want(Whole, inRequired)
	case "&ENVIRONMENT":
		first := !r.environment
		r.environment = true
		return r.isOutside() && first && r.want(Environment, max(r.state, inRequired))
	case "&OPTIONAL":
		return r.enter(inRequired, inOptional)
	case "&REST", "&BODY":
		return r.state <= inOptional && r.want(Rest, behindRest)
	case "&KEY":
		r.list.Keys = true
		return r.enter(behindRest, inKey)
	case "&ALLOW-OTHER-KEYS":
		r.list.Allow = true
		return r.state == inKey && r.enter(inKey, behindAllow)
	case "&AUX":
		return r.enter(behindAllow, inAux)
	}
	return false
}

// isOutside reports whether markers for macros, but not for patterns, may stand.
func (r *reader) isOutside() bool { return r.macro && !r.inner }

// want reads a marker behind which a variable stands.
func (r *reader) want(kind, state int) bool {
	r.wanted, r.state = kind, state
	return true
}

// enter begins a group that stands behind others.
func (r *reader) enter(last, state int) bool {
	ok := r.state <= last
	r.state = state
	return ok
}

func (r *reader) add(item Item) bool {
	r.list.Items = append(r.list.Items, item)
	return true
}

// plain returns a parameter for which only a variable, or nothing yet, is written. Whatever its kind, an init form that is missing is NIL.
func plain(kind int, variable api.Form) Item {
	return Item{Kind: kind, Var: variable, Init: forms.Nil()}
}

func (r *reader) variable(kind int, f api.Form) bool {
	return isVariable(f) && r.add(plain(kind, f))
}

// parameter reads a parameter of the group that was begun.
func (r *reader) parameter(f api.Form) bool {
	switch r.state {
	case atStart, inRequired:
		r.state = inRequired
		item := plain(Required, api.Form{})
		return r.target(&item, f) && r.add(item)
	case inOptional:
		item, ok := r.optional(f)
		return ok && r.add(item)
	case inKey:
		item, ok := r.key(f)
		return ok && r.add(item)
	case inAux:
		item, ok := aux(f)
		return ok && r.add(item)
	}
	return false
}

// target reads what an argument is bound to: a variable, or, for macros, a pattern.
func (r *reader) target(item *Item, f api.Form) bool {
	if isVariable(f) {
		item.Var = f
		return true
	}
	if !r.macro {
		return false
	}
	l, ok := read(f, true, true)
	item.Pattern = &l
	return ok
}

// divide reads a parameter in a list: what is bound, its init form and the variable that tells.
func divide(f api.Form, kind, most int) (item Item, first api.Form, ok bool) {
	l, ok := forms.Items(f)
	if !ok || len(l) == 0 || len(l) > most {
		return Item{}, api.Form{}, false
	}
	item = plain(kind, api.Form{})
	if len(l) > 1 {
		item.Init = l[1]
	}
	if len(l) > 2 {
		item.Given = l[2]
	}
	return item, l[0], len(l) < 3 || isVariable(item.Given)
}

func (r *reader) optional(f api.Form) (Item, bool) {
	if isVariable(f) {
		return plain(Optional, f), true
	}
	item, first, ok := divide(f, Optional, 3)
	return item, ok && r.target(&item, first)
}

func (r *reader) key(f api.Form) (Item, bool) {
	if isVariable(f) {
		item := plain(Key, f)
		item.Key = forms.Symbol(keywords, f.Text)
		return item, true
	}
	item, first, ok := divide(f, Key, 3)
	if !ok {
		return Item{}, false
	}
	if isVariable(first) {
		item.Var, item.Key = first, forms.Symbol(keywords, first.Text)
		return item, true
	}
	pair, ok := forms.Items(first)
	if !ok || len(pair) != 2 || pair[0].Kind != api.FormSymbol {
		return Item{}, false
	}
	item.Key = pair[0]
	return item, r.target(&item, pair[1])
}

func aux(f api.Form) (Item, bool) {
	if isVariable(f) {
		return plain(Aux, f), true
	}
	item, first, ok := divide(f, Aux, 2)
	item.Var = first
	return item, ok && isVariable(first)
}

// A name is a symbol, as a key of a map.
type name struct{ home, text string }

func nameOf(f api.Form) name { return name{f.Home, f.Text} }

// hasTwice reports whether a variable occurs twice, or a key in one list.
func (l List) hasTwice() bool {
	variables, _ := l.variables()
	return isTwice(variables) || l.hasKeyTwice()
}

func isTwice(symbols []api.Form) bool {
	met := map[name]bool{}
	for _, f := range symbols {
		if met[nameOf(f)] {
			return true
		}
		met[nameOf(f)] = true
	}
	return false
}

func (l List) hasKeyTwice() bool {
	var keys []api.Form
	for _, item := range l.Items {
		if item.Kind == Key {
			keys = append(keys, item.Key)
		}
		if item.Pattern != nil && item.Pattern.hasKeyTwice() {
			return true
		}
	}
	return isTwice(keys)
}
