package macro

import (
	"slices"

	"commonform/api"
	"commonform/core"
	"commonform/forms"
)

// copied returns a table in memory of its own.
func (t Table) copied() Table {
	made := Table{Expanders: slices.Clone(t.Expanders), Specials: copiedForms(t.Specials)}
	for _, m := range t.Macros {
		made.Macros = append(made.Macros, Macro{copied(m.Name), copiedCore(m.Lambda)})
	}
	return made
}

func copiedForms(l []api.Form) []api.Form {
	var all []api.Form
	for _, f := range l {
		all = append(all, copied(f))
	}
	return all
}

func copiedCore(c api.Core) api.Core {
	c.Vars = slices.Clone(c.Vars)
	c.Syms = copiedForms(c.Syms)
	c.Pars = slices.Clone(c.Pars)
	for i := range c.Pars {
		c.Pars[i].Key = copied(c.Pars[i].Key)
	}
	c.Data = copied(c.Data)
	var kids []api.Core
	for _, k := range c.Kids {
		kids = append(kids, copiedCore(k))
	}
	c.Kids = kids
	return c
}

// define changes the table if a form is a definition.
func (x *walker) define(f api.Form) bool {
	f = checked(f)
	if f.Kind != api.FormCons || !isSymbol(f.Kids[0]) || f.Kids[0].Home != lisp {
		return false
	}
	switch f.Kids[0].Text {
	case "DEFMACRO":
		x.defineMacro(items(f)[1:])
	case "DEFVAR", "DEFPARAMETER", "DEFCONSTANT":
		x.addSpecial(counted(items(f), 2, -1)[1])
	case "DECLAIM":
		x.declaim(items(f)[1:])
	default:
		return false
	}
	return true
}

func (x *walker) defineMacro(l []api.Form) {
	counted(l, 2, -1)
	made := Macro{named(l[0]), x.macroFunction(l)}
	x.table.Macros = append(slices.Clone(x.table.Macros), made)
}

// macroFunction returns the function of a macro, of its name, its lambda list and its body.
func (x *walker) macroFunction(l []api.Form) api.Core {
	a := x.fresh()
	declarations, body := divide(withoutText(l[2:]))
	block := around(body, "BLOCK", l[0])
	f := x.whole(x.bind(l[1], a, append(declarations, block)))
	c, e := core.Convert(call("FUNCTION", call("LAMBDA", list(a), f)), x.table.Specials)
	if e != api.OK {
		refuse(e)
	}
	return c
}

// declaim adds the variables that declarations make special; other declarations are not looked at.
func (x *walker) declaim(l []api.Form) {
	for _, f := range l {
		spec := items(f)
		if len(spec) == 0 || !forms.Is(spec[0], lisp, "SPECIAL") {
			continue
		}
		for _, v := range spec[1:] {
			x.addSpecial(v)
		}
	}
}

func (x *walker) addSpecial(f api.Form) {
	variable(f)
	isSame := func(g api.Form) bool { return forms.Equal(f, g) }
	if !slices.ContainsFunc(x.table.Specials, isSame) {
		x.table.Specials = append(slices.Clone(x.table.Specials), f)
	}
}
