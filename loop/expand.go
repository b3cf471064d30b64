package loop

import (
	"slices"

	"commonform/api"
	"commonform/forms"
	"commonform/place"
)

// An expander collects what clauses put into the expansion.
type expander struct {
	next      int      // the number of the next fresh symbol
	block     api.Form // its name
	end       api.Form // the tag behind the steps
	hidden    api.Form // the variable of values that are put together without one
	bindings  []api.Form
	initially []api.Form
	steps     []api.Form
	finally   []api.Form
}

func (x *expander) fresh() api.Form {
	f := place.Fresh(x.next)
	x.next++
	return f
}

// bind adds a binding.
func (x *expander) bind(variable, value api.Form) {
	x.bindings = append(x.bindings, list(variable, value))
}

// keep binds a fresh symbol, and returns it.
func (x *expander) keep(value api.Form) api.Form {
	g := x.fresh()
	x.bind(g, value)
	return g
}

// step adds what is done in each round.
func (x *expander) step(l ...api.Form) { x.steps = append(x.steps, l...) }

// finish returns an expansion, if it is a right form.
func (x *expander) finish(f api.Form) (api.Form, int, api.Errno) {
	if forms.Check(f) != api.OK {
		return api.Form{}, 0, api.ErrSize
	}
	return f, x.next, api.OK
}

// Expand returns the form of clauses, and the number of the next fresh symbol.
func Expand(l []Clause, fresh int) (api.Form, int, api.Errno) {
	e := Check(l)
	if e == api.OK {
		e = checkFresh(fresh)
	}
	if e != api.OK {
		return api.Form{}, 0, e
	}
	x := &expander{next: fresh, block: forms.Nil()}
	if len(l) > 0 && l[0].Kind == Named {
		x.block = l[0].Var
	}
	again := x.fresh()
	x.end = x.fresh()
	result := x.results(l)
	for _, c := range l {
		x.clause(c)
	}
	body := slices.Concat(x.initially, []api.Form{again}, x.steps, []api.Form{call("GO", again), x.end}, x.finally)
	inner := call("LET*", forms.List(x.bindings), call("TAGBODY", body...), result)
	return x.finish(call("BLOCK", x.block, inner))
}

// results binds the variables of values that are put together, the hidden one first, and returns the result.
func (x *expander) results(l []Clause) api.Form {
	result := forms.Nil()
	met := map[name]bool{}
	var bindings []api.Form
	for c := range walk(l) {
		if c.Kind == Always || c.Kind == Never {
			result = symbol("T")
		}
		v := name{c.Var.Home, c.Var.Text}
		if !isAccumulation(c.Kind) || met[v] {
			continue
		}
		met[v] = true
		if forms.IsNil(c.Var) {
			x.hidden = x.keep(empty(c.Kind))
		} else {
			bindings = append(bindings, list(c.Var, empty(c.Kind)))
		}
	}
	x.bindings = append(x.bindings, bindings...)
	if !isEmpty(x.hidden) {
		return x.hidden
	}
	return result
}

// empty returns what values that are put together begin with.
func empty(kind int) api.Form {
	if groupOf(kind) == Sum {
		return integer(0)
	}
	return forms.Nil()
}

// leave goes to the end.
func (x *expander) leave() api.Form { return call("GO", x.end) }

// answer leaves the loop with a value.
func (x *expander) answer(f api.Form) api.Form { return call("RETURN-FROM", x.block, f) }

func set(variable, value api.Form) api.Form { return call("SETQ", variable, value) }

// clause adds what a clause puts into the expansion.
func (x *expander) clause(c Clause) {
	switch c.Kind {
	case Named:
	case With:
		x.bind(c.Var, c.Forms[0])
	case Initially:
		x.initially = append(x.initially, c.Forms...)
	case Finally:
		x.finally = append(x.finally, c.Forms...)
	case Arithmetic:
		x.arithmetic(c)
	case In:
		x.list(c, func(g api.Form) api.Form { return call("CAR", g) })
	case On:
		x.list(c, func(g api.Form) api.Form { return g })
	case Across:
		x.across(c)
	case Equals:
		x.equals(c)
	case Repeat:
		g := x.keep(c.Forms[0])
		x.step(call("IF", call("<", integer(0), g), forms.Nil(), x.leave()), set(g, call("-", g, integer(1))))
	case While, Until, Always, Never, Thereis:
		x.step(x.test(c))
	default:
		x.step(x.action(c))
	}
}

// arithmetic adds a clause that goes through numbers.
func (x *expander) arithmetic(c Clause) {
	g := x.keep(c.Forms[first])
	number := slices.Index([]string{"0", "1", "2", "3"}, c.Forms[how].Text)
	if !forms.IsNil(c.Forms[limit]) {
		m := x.keep(c.Forms[limit])
		isBehind := [...]string{">", ">=", "<", "<="}[number]
		x.step(call("IF", call(isBehind, g, m), x.leave()))
	}
	by := c.Forms[step]
	if !place.Constant(by) {
		by = x.keep(by)
	}
	x.bind(c.Var, forms.Nil())
	change := "+"
	if number&down != 0 {
		change = "-"
	}
	x.step(set(c.Var, g), set(g, call(change, g, by)))
}

// list adds a clause that goes through a list; part tells what the variable gets of what is left.
func (x *expander) list(c Clause, part func(g api.Form) api.Form) {
	g := x.keep(c.Forms[0])
	next := call("CDR", g)
	if len(c.Forms) == 2 {
		next = call("FUNCALL", x.keep(c.Forms[1]), g)
	}
	x.bind(c.Var, forms.Nil())
	x.step(call("IF", call("ATOM", g), x.leave()), set(c.Var, part(g)), set(g, next))
}

func (x *expander) across(c Clause) {
	g := x.keep(c.Forms[0])
	k := x.keep(integer(0))
	m := x.keep(call("LENGTH", g))
	x.bind(c.Var, forms.Nil())
	x.step(call("IF", call("<", k, m), forms.Nil(), x.leave()), set(c.Var, call("AREF", g, k)), set(k, call("+", k, integer(1))))
}

func (x *expander) equals(c Clause) {
	if len(c.Forms) == 1 {
		x.bind(c.Var, forms.Nil())
		x.step(set(c.Var, c.Forms[0]))
		return
	}
	g := x.keep(symbol("T"))
	x.bind(c.Var, forms.Nil())
	x.step(set(c.Var, call("IF", g, c.Forms[0], c.Forms[1])), set(g, forms.Nil()))
}

// test returns what a clause does that may end the loop.
func (x *expander) test(c Clause) api.Form {
	f := c.Forms[0]
	switch c.Kind {
	case While:
		return call("IF", f, forms.Nil(), x.leave())
	case Until:
		return call("IF", f, x.leave())
	case Always:
		return call("IF", f, forms.Nil(), x.answer(forms.Nil()))
	case Never:
		return call("IF", f, x.answer(forms.Nil()))
	}
	g := x.fresh()
	return bound(g, f, call("IF", g, x.answer(g)))
}

// bound binds a variable around a form.
func bound(variable, value, inner api.Form) api.Form {
	return call("LET*", list(list(variable, value)), inner)
}

// actions returns what some selectable clauses do, as one form.
func (x *expander) actions(l []Clause) api.Form {
	var all []api.Form
	for _, c := range l {
		all = append(all, x.action(c))
	}
	return call("PROGN", all...)
}

// action returns what a selectable clause does.
func (x *expander) action(c Clause) api.Form {
	f, v := c.Forms[0], c.Var
	if forms.IsNil(v) {
		v = x.hidden
	}
	switch c.Kind {
	case Return:
		return x.answer(f)
	case Collect:
		return set(v, call("APPEND", v, call("LIST", f)))
	case Append:
		return set(v, call("APPEND", v, f))
	case Sum:
		return set(v, call("+", v, f))
	case Count:
		return call("IF", f, set(v, call("+", v, integer(1))))
	case Maximize:
		return x.extreme("MAX", v, f)
	case Minimize:
		return x.extreme("MIN", v, f)
	case If:
		then := x.actions(c.Then)
		return call("IF", f, then, x.actions(c.Else))
	case Unless:
		then := x.actions(c.Then)
		return call("IF", f, x.actions(c.Else), then)
	}
	return call("PROGN", c.Forms...)
}

// extreme keeps the greatest or least value.
func (x *expander) extreme(function string, v, f api.Form) api.Form {
	g := x.fresh()
	return bound(g, f, set(v, call("IF", v, call(function, v, g), g)))
}
