package condition

import (
	"commonform/api"
	"commonform/forms"
)

// macros returns what expands the forms behind an operator: false, if they are not as they must be.
func macros() map[string]func(*expander, []api.Form) (api.Form, bool) {
	return map[string]func(*expander, []api.Form) (api.Form, bool){
		"HANDLER-BIND":        (*expander).handlerBind,
		"RESTART-BIND":        (*expander).restartBind,
		"HANDLER-CASE":        (*expander).handlerCase,
		"RESTART-CASE":        (*expander).restartCase,
		"IGNORE-ERRORS":       (*expander).ignoreErrors,
		"WITH-SIMPLE-RESTART": (*expander).withSimpleRestart,
		"DEFINE-CONDITION":    (*expander).defineCondition,
		"ASSERT":              (*expander).assert,
		"CHECK-TYPE":          (*expander).checkType,
	}
}

// pairsOf returns a form that makes the list of conses of names and functions.
func pairsOf(f api.Form, isName func(api.Form) bool) (api.Form, bool) {
	l, ok := forms.Items(f)
	if !ok {
		return api.Form{}, false
	}
	var all []api.Form
	for _, x := range l {
		pair, ok := forms.Items(x)
		if !ok || len(pair) != 2 || !isName(pair[0]) {
			return api.Form{}, false
		}
		all = append(all, call("CONS", quote(pair[0]), pair[1]))
	}
	return call("LIST", all...), true
}

// bind returns a body around which a variable has more in front of what it has.
func bind(variable, function string, more api.Form, body []api.Form) api.Form {
	v := symbol(variable)
	value := call(function, more, call("SYMBOL-VALUE", quote(v)))
	return around(body, symbol("PROGV"), quote(list(v)), call("LIST", value))
}

func (x *expander) handlerBind(l []api.Form) (api.Form, bool) {
	if len(l) == 0 {
		return api.Form{}, false
	}
	cluster, ok := pairsOf(l[0], func(api.Form) bool { return true })
	return bind(handlers, "CONS", cluster, l[1:]), ok
}

func (x *expander) restartBind(l []api.Form) (api.Form, bool) {
	if len(l) == 0 {
		return api.Form{}, false
	}
	more, ok := pairsOf(l[0], isSymbol)
	return bind(restarts, "APPEND", more, l[1:]), ok
}

// A choice is what HANDLER-CASE and RESTART-CASE differ in.
type choice struct {
	operator string                                      // what binds functions around the form
	params   func(g api.Form) api.Form                   // those of a function
	result   func(c Clause, v api.Form) (value api.Form) // what a clause evaluates, with the variable in which the function put its argument
}

// choose returns a form that leaves to one of its clauses.
func (x *expander) choose(f api.Form, clauses []Clause, how choice) api.Form {
	k := x.fresh()
	v := x.fresh()
	var tags []api.Form
	for range clauses {
		tags = append(tags, x.fresh())
	}
	g := x.fresh()
	var bindings, behind []api.Form
	for i, c := range clauses {
		function := call("LAMBDA", how.params(g), call("SETQ", v, g), call("GO", tags[i]))
		bindings = append(bindings, list(c.Name, function))
		behind = append(behind, tags[i], call("RETURN-FROM", k, how.result(c, v)))
	}
	first := call("RETURN-FROM", k, call(how.operator, forms.List(bindings), f))
	body := around(behind, symbol("TAGBODY"), first)
	return call("BLOCK", k, call("LET*", list(list(v, forms.Nil())), body))
}

func (x *expander) handlerCase(l []api.Form) (api.Form, bool) {
	clauses, ok := clausesOf(l, Clause.isHandler)
	if !ok {
		return api.Form{}, false
	}
	return x.choose(l[0], clauses, choice{
		"HANDLER-BIND",
		func(g api.Form) api.Form { return list(g) },
		func(c Clause, v api.Form) api.Form {
			l, _ := forms.Items(c.Params)
			if len(l) == 0 {
				return call("PROGN", c.Body...)
			}
			return around(c.Body, symbol("LET*"), list(list(l[0], v)))
		},
	}), true
}

func (x *expander) restartCase(l []api.Form) (api.Form, bool) {
	clauses, ok := clausesOf(l, Clause.isRestart)
	if !ok {
		return api.Form{}, false
	}
	return x.choose(l[0], clauses, choice{
		"RESTART-BIND",
		func(g api.Form) api.Form { return list(symbol("&REST"), g) },
		func(c Clause, v api.Form) api.Form {
			return call("APPLY", around(c.Body, symbol("LAMBDA"), c.Params), v)
		},
	}), true
}

func (x *expander) ignoreErrors(l []api.Form) (api.Form, bool) {
	g := x.fresh()
	clause := call("ERROR", list(g), call("VALUES", forms.Nil(), g))
	return call("HANDLER-CASE", call("PROGN", l...), clause), true
}

func (x *expander) withSimpleRestart(l []api.Form) (api.Form, bool) {
	if len(l) == 0 {
		return api.Form{}, false
	}
	parts, ok := forms.Items(l[0])
	if !ok || len(parts) == 0 || !isSymbol(parts[0]) {
		return api.Form{}, false
	}
	clause := list(parts[0], forms.Nil(), call("VALUES", forms.Nil(), symbol("T")))
	return call("RESTART-CASE", call("PROGN", l[1:]...), clause), true
}

func (x *expander) defineCondition(l []api.Form) (api.Form, bool) {
	if len(l) < 3 || !isSymbol(l[0]) {
		return api.Form{}, false
	}
	above, ok := forms.Items(l[1])
	_, hasSlots := forms.Items(l[2])
	if !ok || !hasSlots {
		return api.Form{}, false
	}
	if len(above) == 0 {
		above = []api.Form{symbol("CONDITION")}
	}
	return call("DEFCLASS", l[0], forms.List(above), l[2]), true
}

func (x *expander) assert(l []api.Form) (api.Form, bool) {
	if len(l) != 1 {
		return api.Form{}, false
	}
	return call("IF", l[0], forms.Nil(), call("ERROR", quote(symbol("SIMPLE-ERROR")))), true
}

func (x *expander) checkType(l []api.Form) (api.Form, bool) {
	if len(l) != 2 {
		return api.Form{}, false
	}
	return call("IF", call("TYPEP", l[0], quote(l[1])), forms.Nil(), call("ERROR", quote(symbol("TYPE-ERROR")))), true
}
