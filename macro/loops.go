package macro

import (
	"slices"

	"commonform/api"
	"commonform/forms"
)

// block returns a block without a name around variables that are bound in a body: declarations, and a form behind them.
func block(let string, bindings []api.Form, declarations []api.Form, inner ...api.Form) api.Form {
	body := slices.Concat([]api.Form{forms.List(bindings)}, declarations, inner)
	return call("BLOCK", forms.Nil(), call(let, body...))
}

func (m *maker) do(l []api.Form) api.Form { return m.iterate(l, "LET", "PSETQ") }

func (m *maker) doInOrder(l []api.Form) api.Form { return m.iterate(l, "LET*", "SETQ") }

// iterate makes a DO whose variables are bound and set in a way.
func (m *maker) iterate(l []api.Form, let, set string) api.Form {
	counted(l, 2, -1)
	var bindings, steps []api.Form
	for _, f := range items(l[0]) {
		parts := []api.Form{f}
		if !isSymbol(f) {
			parts = counted(items(f), 1, 3)
		}
		v := variable(parts[0])
		if len(parts) > 1 {
			bindings = append(bindings, list(v, parts[1]))
		} else {
			bindings = append(bindings, v)
		}
		if len(parts) > 2 {
			steps = append(steps, v, parts[2])
		}
	}
	end := counted(items(l[1]), 1, -1)
	a := m.fresh()
	leave := call("RETURN-FROM", forms.Nil(), call("PROGN", end[1:]...))
	declarations, body := divide(l[2:])
	ahead, behind := []api.Form{a, call("IF", end[0], leave)}, []api.Form{call(set, steps...), call("GO", a)}
	return block(let, bindings, declarations, call("TAGBODY", slices.Concat(ahead, body, behind)...))
}

func (m *maker) prog(l []api.Form) api.Form { return m.bindTags(l, "LET") }

func (m *maker) progInOrder(l []api.Form) api.Form { return m.bindTags(l, "LET*") }

// bindTags makes a PROG whose variables are bound in a way.
func (m *maker) bindTags(l []api.Form, let string) api.Form {
	bindings := items(counted(l, 1, -1)[0])
	declarations, body := divide(l[1:])
	return block(let, bindings, declarations, call("TAGBODY", body...))
}

// repeated is the variable of a loop, the form behind it, and its result.
func repeated(f api.Form) (v, over, result api.Form) {
	spec := counted(items(f), 2, 3)
	result = forms.Nil()
	if len(spec) == 3 {
		result = spec[2]
	}
	return variable(spec[0]), spec[1], result
}

func set(variable, value api.Form) api.Form { return call("SETQ", variable, value) }

func (m *maker) dolist(l []api.Form) api.Form {
	v, over, result := repeated(counted(l, 1, -1)[0])
	a := m.fresh()
	declarations, body := divide(l[1:])
	b := m.fresh()
	next := call("PROGN", set(v, call("CAR", a)), call("TAGBODY", body...), set(a, call("CDR", a)), call("GO", b))
	loop := call("TAGBODY", b, call("IF", a, next))
	bindings := []api.Form{list(a, over), list(v, forms.Nil())}
	return block("LET", bindings, declarations, loop, set(v, forms.Nil()), result)
}

func (m *maker) dotimes(l []api.Form) api.Form {
	v, over, result := repeated(counted(l, 1, -1)[0])
	a := m.fresh()
	declarations, body := divide(l[1:])
	b := m.fresh()
	next := call("PROGN", call("TAGBODY", body...), set(v, call("+", v, integer(1))), call("GO", b))
	loop := call("TAGBODY", b, call("IF", call("<", v, a), next))
	bindings := []api.Form{list(a, over), list(v, integer(0))}
	return block("LET", bindings, declarations, loop, result)
}
