package place

import (
	"slices"

	"commonform/api"
	"commonform/forms"
)

// macros returns what expands the forms behind an operator.
func macros() map[string]func(*expander, []api.Form) (api.Form, api.Errno) {
	return map[string]func(*expander, []api.Form) (api.Form, api.Errno){
		"SETF":    (*expander).setf,
		"PSETF":   (*expander).psetf,
		"INCF":    (*expander).incf,
		"DECF":    (*expander).decf,
		"PUSH":    (*expander).push,
		"PUSHNEW": (*expander).pushnew,
		"POP":     (*expander).pop,
		"ROTATEF": (*expander).rotatef,
		"SHIFTF":  (*expander).shiftf,
	}
}

// bound returns a form that binds variables in their order around a body.
func bound(bindings []api.Form, body ...api.Form) api.Form {
	return call("LET*", append([]api.Form{forms.List(bindings)}, body...)...)
}

// single returns the expansion of a place with one value.
func (x *expander) single(f api.Form) (Place, api.Errno) {
	p, e := x.place(f)
	if e == api.OK && len(p.Stores) != 1 {
		e = ErrPlace
	}
	return p, e
}

// singles returns the expansions of places with one value each.
func (x *expander) singles(l []api.Form) ([]Place, api.Errno) {
	var all []Place
	for _, f := range l {
		p, e := x.single(f)
		if e != api.OK {
			return nil, e
		}
		all = append(all, p)
	}
	return all, api.OK
}

func (x *expander) setf(l []api.Form) (api.Form, api.Errno) {
	if len(l)%2 != 0 {
		return api.Form{}, api.ErrForm
	}
	var all []api.Form
	for pair := range slices.Chunk(l, 2) {
		f, e := x.set(pair[0], pair[1])
		if e != api.OK {
			return api.Form{}, e
		}
		all = append(all, f)
	}
	switch len(all) {
	case 0:
		return forms.Nil(), api.OK
	case 1:
		return all[0], api.OK
	}
	return call("PROGN", all...), api.OK
}

// set returns what writes a value to a place.
func (x *expander) set(f, value api.Form) (api.Form, api.Errno) {
	if isVariable(f) {
		return call("SETQ", f, value), api.OK
	}
	p, e := x.place(f)
	if e != api.OK {
		return api.Form{}, e
	}
	if len(p.Stores) == 1 {
		return bound(append(p.bindings(), p.bind(value)), p.Write), api.OK
	}
	return bound(p.bindings(), call("MULTIPLE-VALUE-BIND", forms.List(p.Stores), value, p.Write)), api.OK
}

func (x *expander) psetf(l []api.Form) (api.Form, api.Errno) {
	if len(l)%2 != 0 {
		return api.Form{}, api.ErrForm
	}
	var bindings, body []api.Form
	for pair := range slices.Chunk(l, 2) {
		p, e := x.single(pair[0])
		if e != api.OK {
			return api.Form{}, e
		}
		bindings = append(append(bindings, p.bindings()...), p.bind(pair[1]))
		body = append(body, p.Write)
	}
	return bound(bindings, append(body, forms.Nil())...), api.OK
}

func (x *expander) incf(l []api.Form) (api.Form, api.Errno) { return x.change("+", l) }

func (x *expander) decf(l []api.Form) (api.Form, api.Errno) { return x.change("-", l) }

// change returns what changes the number in a place.
func (x *expander) change(function string, l []api.Form) (api.Form, api.Errno) {
	if len(l) != 1 && len(l) != 2 {
		return api.Form{}, api.ErrForm
	}
	p, e := x.single(l[0])
	if e != api.OK {
		return api.Form{}, e
	}
	by := api.Form{Kind: api.FormInt, Text: "1"}
	if len(l) == 2 {
		by = l[1]
	}
	bindings := p.bindings()
	if !Constant(by) {
		s := x.fresh()
		bindings = append(bindings, list(s, by))
		by = s
	}
	return bound(append(bindings, p.bind(call(function, p.Read, by))), p.Write), api.OK
}

// beside returns a place, and the variable of a value that is evaluated ahead of it, with the bindings of both.
func (x *expander) beside(l []api.Form) (p Place, s api.Form, bindings []api.Form, e api.Errno) {
	if len(l) != 2 {
		return Place{}, api.Form{}, nil, api.ErrForm
	}
	s = x.fresh()
	p, e = x.single(l[1])
	if e != api.OK {
		return Place{}, api.Form{}, nil, e
	}
	return p, s, append([]api.Form{list(s, l[0])}, p.bindings()...), api.OK
}

func (x *expander) push(l []api.Form) (api.Form, api.Errno) {
	p, s, bindings, e := x.beside(l)
	if e != api.OK {
		return api.Form{}, e
	}
	return bound(append(bindings, p.bind(call("CONS", s, p.Read))), p.Write), api.OK
}

func (x *expander) pushnew(l []api.Form) (api.Form, api.Errno) {
	p, s, bindings, e := x.beside(l)
	if e != api.OK {
		return api.Form{}, e
	}
	r := x.fresh()
	added := bound([]api.Form{p.bind(call("CONS", s, r))}, p.Write)
	return bound(append(bindings, list(r, p.Read)), call("IF", call("MEMBER", s, r), r, added)), api.OK
}

func (x *expander) pop(l []api.Form) (api.Form, api.Errno) {
	if len(l) != 1 {
		return api.Form{}, api.ErrForm
	}
	p, e := x.single(l[0])
	if e != api.OK {
		return api.Form{}, e
	}
	r := x.fresh()
	return bound(append(p.bindings(), list(r, p.Read), p.bind(call("CDR", r))), p.Write, call("CAR", r)), api.OK
}

// shifted returns the bindings by which each place gets the value of the next one, and the last one another value; first is a binding ahead of them, if there is one.
func shifted(places []Place, last api.Form, first ...api.Form) (bindings, writes []api.Form) {
	for _, p := range places {
		bindings = append(bindings, p.bindings()...)
	}
	bindings = append(bindings, first...)
	for i, p := range places {
		value := last
		if i+1 < len(places) {
			value = places[i+1].Read
		}
		bindings = append(bindings, p.bind(value))
		writes = append(writes, p.Write)
	}
	return bindings, writes
}

func (x *expander) rotatef(l []api.Form) (api.Form, api.Errno) {
	places, e := x.singles(l)
	if e != api.OK || len(places) == 0 {
		return forms.Nil(), e
	}
	bindings, writes := shifted(places, places[0].Read)
	return bound(bindings, append(writes, forms.Nil())...), api.OK
}

func (x *expander) shiftf(l []api.Form) (api.Form, api.Errno) {
	if len(l) < 2 {
		return api.Form{}, api.ErrForm
	}
	last := len(l) - 1
	places, e := x.singles(l[:last])
	if e != api.OK {
		return api.Form{}, e
	}
	r := x.fresh()
	bindings, writes := shifted(places, l[last], list(r, places[0].Read))
	return bound(bindings, append(writes, r)...), api.OK
}
