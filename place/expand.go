package place

import (
	"slices"

	"commonform/api"
	"commonform/forms"
)

// An expander makes the expansions of places, and takes fresh symbols for them.
type expander struct {
	writers []Writer
	counter
}

// place returns the expansion of a place, of the first sort that fits.
func (x *expander) place(f api.Form) (Place, api.Errno) {
	l, _ := forms.Items(f)
	sorts := [...]func() (p Place, fits bool, e api.Errno){
		func() (Place, bool, api.Errno) { return x.variable(f) },
		func() (Place, bool, api.Errno) { return x.written(l) },
		func() (Place, bool, api.Errno) { return x.part(l) },
		func() (Place, bool, api.Errno) { return x.typed(l) },
		func() (Place, bool, api.Errno) { return x.several(l) },
		func() (Place, bool, api.Errno) { return x.other(l) },
	}
	for _, try := range sorts {
		if p, fits, e := try(); fits {
			return p, e
		}
	}
	return Place{}, ErrPlace
}

func (x *expander) variable(f api.Form) (Place, bool, api.Errno) {
	if !isVariable(f) {
		return Place{}, false, api.OK
	}
	g := x.fresh()
	return Place{Stores: []api.Form{g}, Write: call("SETQ", f, g), Read: copied(f)}, true, api.OK
}

// writer returns what writes the places that a function reads.
func (x *expander) writer(reader api.Form) (api.Form, bool) {
	for _, w := range slices.Backward(x.writers) {
		if forms.Equal(w.Reader, reader) {
			return w.Writer, true
		}
	}
	return api.Form{}, false
}

// written makes the place of a call of a function that has a writer.
func (x *expander) written(l []api.Form) (Place, bool, api.Errno) {
	if len(l) == 0 {
		return Place{}, false, api.OK
	}
	w, ok := x.writer(l[0])
	if !ok {
		return Place{}, false, api.OK
	}
	return x.call(l[0], l[1:], func(args []api.Form, value api.Form) []api.Form {
		return slices.Concat([]api.Form{w}, args, []api.Form{value})
	}), true, api.OK
}

// call makes the place of a call of a function; write tells which call writes it, with variables or constants for its arguments.
func (x *expander) call(reader api.Form, args []api.Form, write func(args []api.Form, value api.Form) []api.Form) Place {
	var p Place
	var kept []api.Form
	for _, a := range args {
		if !Constant(a) {
			t := x.fresh()
			p.Temps = append(p.Temps, t)
			p.Values = append(p.Values, a)
			a = t
		}
		kept = append(kept, a)
	}
	g := x.fresh()
	p.Stores = []api.Form{g}
	p.Write = call("PROGN", list(write(kept, g)...), g)
	p.Read = list(slices.Concat([]api.Form{reader}, kept)...)
	return p
}

// isNamed reports whether a list is a call of a function of COMMON-LISP.
func isNamed(l []api.Form, name string) bool { return len(l) > 0 && forms.Is(l[0], lisp, name) }

// A detour says which call of CAR or CDR a call with so many arguments stands for.
type detour struct {
	name, outer string
	inner       []string // functions around the last argument, from the outside to the inside
	args        int
}

func detours() []detour {
	return []detour{
		{"NTH", "CAR", []string{"NTHCDR"}, 2},
		{"SECOND", "CAR", []string{"CDR"}, 1},
		{"THIRD", "CAR", []string{"CDR", "CDR"}, 1},
		{"CAAR", "CAR", []string{"CAR"}, 1},
		{"CADR", "CAR", []string{"CDR"}, 1},
		{"CDAR", "CDR", []string{"CAR"}, 1},
		{"CDDR", "CDR", []string{"CDR"}, 1},
	}
}

// part makes the place of a part of a list that stands for a CAR or a CDR.
func (x *expander) part(l []api.Form) (Place, bool, api.Errno) {
	for _, d := range detours() {
		if !isNamed(l, d.name) {
			continue
		}
		args := l[1:]
		if len(args) != d.args {
			return Place{}, true, ErrPlace
		}
		for _, name := range slices.Backward(d.inner) {
			args = []api.Form{call(name, args...)}
		}
		p, fits, e := x.written([]api.Form{symbol(d.outer), args[0]})
		if !fits {
			e = ErrPlace
		}
		return p, true, e
	}
	return Place{}, false, api.OK
}

func (x *expander) typed(l []api.Form) (Place, bool, api.Errno) {
	if !isNamed(l, "THE") {
		return Place{}, false, api.OK
	}
	if len(l) != 3 {
		return Place{}, true, ErrPlace
	}
	p, e := x.place(l[2])
	p.Read = call("THE", l[1], p.Read)
	return p, true, e
}

func (x *expander) several(l []api.Form) (Place, bool, api.Errno) {
	if !isNamed(l, "VALUES") {
		return Place{}, false, api.OK
	}
	var all Place
	var writes, reads []api.Form
	for _, f := range l[1:] {
		p, e := x.place(f)
		if e != api.OK {
			return Place{}, true, e
		}
		all.Temps = append(all.Temps, p.Temps...)
		all.Values = append(all.Values, p.Values...)
		all.Stores = append(all.Stores, p.Stores...)
		writes = append(writes, p.Write)
		reads = append(reads, p.Read)
	}
	all.Write, all.Read = call("VALUES", writes...), call("VALUES", reads...)
	return all, true, api.OK
}

// other makes the place of a call of a function that is written by one with a name of its own.
func (x *expander) other(l []api.Form) (Place, bool, api.Errno) {
	if len(l) == 0 || !isVariable(l[0]) {
		return Place{}, false, api.OK
	}
	w := forms.Symbol(l[0].Home, "(SETF "+l[0].Text+")")
	return x.call(l[0], l[1:], func(args []api.Form, value api.Form) []api.Form {
		return slices.Concat([]api.Form{w, value}, args)
	}), true, api.OK
}

// check returns ErrSize if a form of a place has an error.
func (p Place) check() api.Errno {
	for _, f := range slices.Concat(p.Temps, p.Values, p.Stores, []api.Form{p.Write, p.Read}) {
		if forms.Check(f) != api.OK {
			return api.ErrSize
		}
	}
	return api.OK
}

// bindings returns the bindings of the variables for subforms.
func (p Place) bindings() []api.Form {
	var l []api.Form
	for i, t := range p.Temps {
		l = append(l, list(t, p.Values[i]))
	}
	return l
}

// bind returns the binding of the variable for the value that is stored.
func (p Place) bind(value api.Form) api.Form { return list(p.Stores[0], value) }
