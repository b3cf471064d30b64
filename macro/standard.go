package macro

import (
	"slices"

	"commonform/api"
	"commonform/forms"
	"commonform/reader"
)

// standardMacros returns what expands the forms behind the names of the standard macros. BACKQUOTE is one of the package READER.
func standardMacros() map[string]func(*maker, []api.Form) api.Form {
	return map[string]func(*maker, []api.Form) api.Form{
		"AND":                 (*maker).and,
		"BACKQUOTE":           (*maker).backquote,
		"CASE":                (*maker).caseOf,
		"COND":                (*maker).cond,
		"DECLAIM":             (*maker).declaim,
		"DEFCLASS":            (*maker).defclass,
		"DEFCONSTANT":         (*maker).defparameter,
		"DEFGENERIC":          (*maker).defgeneric,
		"DEFMACRO":            (*maker).defmacro,
		"DEFMETHOD":           (*maker).defmethod,
		"DEFPARAMETER":        (*maker).defparameter,
		"DEFUN":               (*maker).defun,
		"DEFVAR":              (*maker).defvar,
		"DESTRUCTURING-BIND":  (*maker).destructure,
		"DO":                  (*maker).do,
		"DO*":                 (*maker).doInOrder,
		"DOLIST":              (*maker).dolist,
		"DOTIMES":             (*maker).dotimes,
		"LAMBDA":              (*maker).lambda,
		"MULTIPLE-VALUE-BIND": (*maker).valuesBind,
		"MULTIPLE-VALUE-LIST": (*maker).valuesList,
		"MULTIPLE-VALUE-SETQ": (*maker).valuesSetq,
		"NTH-VALUE":           (*maker).nthValue,
		"OR":                  (*maker).or,
		"PROG":                (*maker).prog,
		"PROG*":               (*maker).progInOrder,
		"PROG1":               (*maker).prog1,
		"PROG2":               (*maker).prog2,
		"PSETQ":               (*maker).psetq,
		"RETURN":              (*maker).returnNil,
		"TYPECASE":            (*maker).typecase,
		"UNLESS":              (*maker).unless,
		"WHEN":                (*maker).when,
		"WITH-SLOTS":          (*maker).withSlots,
	}
}

// let binds a variable around some forms.
func let(variable, value api.Form, body ...api.Form) api.Form {
	return around(body, "LET", list(list(variable, value)))
}

func (m *maker) lambda(l []api.Form) api.Form {
	return call("FUNCTION", call("LAMBDA", counted(l, 1, -1)...))
}

func (m *maker) when(l []api.Form) api.Form {
	counted(l, 1, -1)
	return call("IF", l[0], call("PROGN", l[1:]...))
}

func (m *maker) unless(l []api.Form) api.Form {
	counted(l, 1, -1)
	return call("IF", l[0], forms.Nil(), call("PROGN", l[1:]...))
}

func (m *maker) and(l []api.Form) api.Form {
	switch len(l) {
	case 0:
		return symbol("T")
	case 1:
		return l[0]
	}
	return call("IF", l[0], call("AND", l[1:]...))
}

func (m *maker) or(l []api.Form) api.Form {
	switch len(l) {
	case 0:
		return forms.Nil()
	case 1:
		return l[0]
	}
	a := m.fresh()
	return let(a, l[0], call("IF", a, a, call("OR", l[1:]...)))
}

// clauses returns the elements of clauses, each of which has at least one.
func clauses(l []api.Form) [][]api.Form {
	var all [][]api.Form
	for _, f := range l {
		all = append(all, counted(items(f), 1, -1))
	}
	return all
}

func (m *maker) cond(l []api.Form) api.Form {
	all := clauses(l)
	if len(all) == 0 {
		return forms.Nil()
	}
	first, rest := all[0], call("COND", l[1:]...)
	if len(first) == 1 {
		return call("OR", first[0], rest)
	}
	return call("IF", first[0], call("PROGN", first[1:]...), rest)
}

// choose makes the COND of a CASE: test tells when a clause is chosen, by what stands at its front.
func (m *maker) choose(l []api.Form, test func(k, f api.Form) api.Form) api.Form {
	all := clauses(counted(l, 1, -1)[1:])
	a := m.fresh()
	var made []api.Form
	for i, c := range all {
		isOther := forms.Is(c[0], lisp, "T") || forms.Is(c[0], lisp, "OTHERWISE")
		t := symbol("T")
		if !isOther || i < len(all)-1 {
			t = test(a, c[0])
		}
		if len(c) == 1 {
			c = append(c, forms.Nil())
		}
		made = append(made, list(slices.Concat([]api.Form{t}, c[1:])...))
	}
	return let(a, l[0], call("COND", made...))
}

func (m *maker) caseOf(l []api.Form) api.Form {
	return m.choose(l, func(k, f api.Form) api.Form {
		keys, ok := forms.Items(f)
		if !ok {
			return call("EQL", k, quote(f))
		}
		var tests []api.Form
		for _, key := range keys {
			tests = append(tests, call("EQL", k, quote(key)))
		}
		return call("OR", tests...)
	})
}

func (m *maker) typecase(l []api.Form) api.Form {
	return m.choose(l, func(k, f api.Form) api.Form { return call("TYPEP", k, quote(f)) })
}

func (m *maker) prog1(l []api.Form) api.Form {
	counted(l, 1, -1)
	a := m.fresh()
	return let(a, l[0], slices.Concat(l[1:], []api.Form{a})...)
}

func (m *maker) prog2(l []api.Form) api.Form {
	counted(l, 2, -1)
	return call("PROGN", l[0], call("PROG1", l[1:]...))
}

func (m *maker) returnNil(l []api.Form) api.Form {
	value := forms.Nil()
	if len(counted(l, 0, 1)) == 1 {
		value = l[0]
	}
	return call("RETURN-FROM", forms.Nil(), value)
}

func (m *maker) psetq(l []api.Form) api.Form {
	need(len(l)%2 == 0)
	var bindings, pairs []api.Form
	for pair := range slices.Chunk(l, 2) {
		a := m.fresh()
		bindings = append(bindings, list(a, pair[1]))
		pairs = append(pairs, variable(pair[0]), a)
	}
	return call("LET", forms.List(bindings), call("SETQ", pairs...), forms.Nil())
}

func (m *maker) valuesBind(l []api.Form) api.Form {
	counted(l, 2, -1)
	a := m.fresh()
	optional, rest := []api.Form{symbol("&OPTIONAL")}, []api.Form{symbol("&REST"), a}
	parameters := list(slices.Concat(optional, variables(l[0]), rest)...)
	return call("MULTIPLE-VALUE-CALL", call("FUNCTION", around(l[2:], "LAMBDA", parameters)), l[1])
}

func (m *maker) valuesList(l []api.Form) api.Form {
	return call("MULTIPLE-VALUE-CALL", call("FUNCTION", symbol("LIST")), counted(l, 1, 1)[0])
}

func (m *maker) valuesSetq(l []api.Form) api.Form {
	all := variables(counted(l, 2, 2)[0])
	if len(all) == 0 {
		return call("PROG1", l[1])
	}
	values := m.some(len(all))
	var pairs []api.Form
	for i, v := range all {
		pairs = append(pairs, v, values[i])
	}
	return call("MULTIPLE-VALUE-BIND", list(values...), l[1], call("SETQ", pairs...), values[0])
}

func (m *maker) nthValue(l []api.Form) api.Form {
	counted(l, 2, 2)
	return call("NTH", l[0], call("MULTIPLE-VALUE-LIST", l[1]))
}

func (m *maker) destructure(l []api.Form) api.Form {
	counted(l, 2, -1)
	a := m.fresh()
	return let(a, l[1], m.bind(l[0], a, l[2:]))
}

func (m *maker) withSlots(l []api.Form) api.Form {
	counted(l, 2, -1)
	a := m.fresh()
	var slots []api.Form
	for _, s := range variables(l[0]) {
		slots = append(slots, list(s, call("SLOT-VALUE", a, quote(s))))
	}
	return let(a, l[1], around(l[2:], "SYMBOL-MACROLET", forms.List(slots)))
}

func (m *maker) backquote(l []api.Form) api.Form {
	f, e := reader.Backquote(counted(l, 1, 1)[0])
	if e != api.OK {
		refuse(e)
	}
	return f
}
