package lambda

import (
	"iter"

	"commonform/api"
	"commonform/forms"
)

// Arguments are what a list is matched with: the elements of another one, and its tail.
type arguments struct {
	elements []api.Form
	tail     api.Form
}

// Match binds arguments.
func Match(l List, args []api.Form) ([]Binding, api.Errno) {
	if _, ok := l.variables(); !ok {
		return nil, api.ErrForm
	}
	var found []Binding
	for b, e := range l.bindings(arguments{args, forms.Nil()}) {
		if e != api.OK {
			return nil, e
		}
		found = append(found, b)
	}
	return found, api.OK
}

// bindings goes through the bindings of all variables, up to an error.
func (l List) bindings(a arguments) iter.Seq2[Binding, api.Errno] {
	return func(yield func(Binding, api.Errno) bool) {
		l.bind(a, yield)
	}
}

// bind yields the bindings of a list, and reports whether to go on.
func (l List) bind(a arguments, yield func(Binding, api.Errno) bool) bool {
	if e := l.check(a); e != api.OK {
		yield(Binding{}, e)
		return false
	}
	left := a
	for _, item := range l.Items {
		value, given := item.take(a, &left)
		if !item.bind(value, given, yield) {
			return false
		}
	}
	return true
}

// check returns the error of arguments, but for those of patterns.
func (l List) check(a arguments) api.Errno {
	n := len(a.elements)
	if least, most := Arity(l); n < least || most >= 0 && n > most {
		return api.ErrSize
	}
	isProper := forms.IsNil(a.tail)
	if !isProper && !l.has(Rest) {
		return api.ErrForm
	}
	if !l.Keys {
		return api.OK
	}
	required, optional := l.positional()
	left := a.elements[min(n, required+optional):]
	if !isProper || len(left)%2 != 0 {
		return api.ErrForm
	}
	if !l.Allow && !allowsOthers(left) && !l.hasKeys(left) {
		return api.ErrNone
	}
	return api.OK
}

func allowKey() api.Form { return forms.Symbol(keywords, "ALLOW-OTHER-KEYS") }

// allowsOthers reports whether pairs of keys and values say that other keys are allowed.
func allowsOthers(pairs []api.Form) bool {
	value, ok := find(pairs, allowKey())
	return ok && !forms.IsNil(value)
}

// hasKeys reports whether all keys of some pairs are those of a list.
func (l List) hasKeys(pairs []api.Form) bool {
next:
	for i := 0; i < len(pairs); i += 2 {
		if forms.Equal(pairs[i], allowKey()) {
			continue
		}
		for _, item := range l.Items {
			if item.Kind == Key && forms.Equal(item.Key, pairs[i]) {
				continue next
			}
		}
		return false
	}
	return true
}

// find returns the first value of a key.
func find(pairs []api.Form, key api.Form) (api.Form, bool) {
	for i := 0; i+1 < len(pairs); i += 2 {
		if forms.Equal(pairs[i], key) {
			return pairs[i+1], true
		}
	}
	return api.Form{}, false
}

// take returns what an item gets of arguments, and whether it gets something.
func (item Item) take(all arguments, left *arguments) (api.Form, bool) {
	switch item.Kind {
	case Required, Optional:
		if len(left.elements) > 0 {
			first := left.elements[0]
			left.elements = left.elements[1:]
			return first, true
		}
	case Rest:
		return forms.Dotted(left.elements, left.tail), true
	case Key:
		return find(left.elements, item.Key)
	case Whole:
		return forms.Dotted(all.elements, all.tail), true
	}
	return api.Form{}, false
}

// bind yields the bindings of an item, and reports whether to go on.
func (item Item) bind(value api.Form, given bool, yield func(Binding, api.Errno) bool) bool {
	ok := true
	switch {
	case item.Pattern != nil && given:
		ok = item.Pattern.bindPart(value, yield)
	case item.Pattern != nil:
		ok = yieldMissing(Variables(*item.Pattern), yield)
	case given:
		ok = yield(Binding{Var: copied(item.Var), Value: copied(value)}, api.OK)
	default:
		ok = yieldMissing([]api.Form{item.Var}, yield)
	}
	if !ok || !isThere(item.Given) {
		return ok
	}
	return yield(Binding{Var: copied(item.Given), Value: truth(given)}, api.OK)
}

// bindPart matches a pattern with an argument.
func (l List) bindPart(f api.Form, yield func(Binding, api.Errno) bool) bool {
	if !isList(f) {
		yield(Binding{}, api.ErrForm)
		return false
	}
	elements, tail := forms.Spread(f)
	return l.bind(arguments{elements, tail}, yield)
}

func yieldMissing(variables []api.Form, yield func(Binding, api.Errno) bool) bool {
	for _, v := range variables {
		if !yield(Binding{Var: copied(v), Value: forms.Nil(), Missing: true}, api.OK) {
			return false
		}
	}
	return true
}

func truth(is bool) api.Form {
	if is {
		return forms.Symbol(lisp, "T")
	}
	return forms.Nil()
}
