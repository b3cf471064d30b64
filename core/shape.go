package core

import (
	"slices"

	"commonform/api"
	"commonform/forms"
	"commonform/lambda"
)

// elements returns the elements of a proper list.
func elements(f api.Form) []api.Form {
	last := len(f.Kids) - 1
	if forms.IsNil(f) {
		return nil
	}
	if f.Kind != api.FormCons || !forms.IsNil(f.Kids[last]) {
		refuse(api.ErrForm)
	}
	return f.Kids[:last]
}

// counted returns some elements if they are as many as there may be; most is -1 for any number.
func counted(l []api.Form, least, most int) []api.Form {
	if len(l) < least || most >= 0 && len(l) > most {
		refuse(api.ErrForm)
	}
	return l
}

// need refuses a form that is not as it must be.
func need(ok bool) {
	if !ok {
		refuse(api.ErrForm)
	}
}

// A body has the variables that are declared special in it, and its forms.
type body struct {
	declared, forms []api.Form
}

// bodyOf divides a body into declarations and forms.
func bodyOf(l []api.Form) body {
	var b body
	for len(l) > 0 && isDeclaration(l[0]) {
		b.declare(l[0])
		l = l[1:]
	}
	b.forms = l
	return b
}

func isDeclaration(f api.Form) bool {
	return f.Kind == api.FormCons && forms.Is(f.Kids[0], lisp, "DECLARE")
}

// declare looks at a declaration, and takes over the variables that it makes special.
func (b *body) declare(f api.Form) {
	specs, ok := forms.Items(f)
	if !ok {
		refuse(ErrDeclare)
	}
	for _, spec := range specs[1:] {
		l, ok := forms.Items(spec)
		if !ok || len(l) == 0 || l[0].Kind != api.FormSymbol {
			refuse(ErrDeclare)
		}
		if forms.Is(l[0], lisp, "SPECIAL") {
			b.declared = append(b.declared, slices.DeleteFunc(l[1:], func(f api.Form) bool { return !isVariable(f) })...)
		}
	}
}

// A binding is a variable, its init form, and whether it is bound as a special one.
type binding struct {
	variable, init api.Form
	isSpecial      bool
}

// bindingOf reads a binding of LET.
func bindingOf(f api.Form) binding {
	if isVariable(f) {
		return binding{variable: f, init: forms.Nil()}
	}
	l := counted(elements(f), 1, 2)
	need(isVariable(l[0]))
	if len(l) == 1 {
		return binding{variable: l[0], init: forms.Nil()}
	}
	return binding{variable: l[0], init: l[1]}
}

// mark tells which bindings are special, by what is declared in a body.
func (c *converter) mark(l []binding, b body) {
	for i := range l {
		l[i].isSpecial = c.isSpecial(l[i].variable, b)
	}
}

// isSpecial reports whether a variable that is bound around a body is bound as a special one.
func (c *converter) isSpecial(f api.Form, b body) bool {
	isSame := func(g api.Form) bool { return nameOf(g) == nameOf(f) }
	if !c.specials[nameOf(f)] && !slices.ContainsFunc(b.declared, isSame) {
		return false
	}
	need(f.Home != "")
	return true
}

// A shape is what is looked at of a function ahead of its parts.
type shape struct {
	name       api.Form // the zero form for a lambda
	items      []lambda.Item
	aux        []binding
	allow      bool
	body       body
	isSpecials map[name]bool // its parameters that are special
}

// shapeOf reads the lambda list of a function, and its body.
func (c *converter) shapeOf(l []api.Form) shape {
	counted(l, 1, -1)
	list, e := lambda.Parse(l[0], false)
	if e != api.OK {
		refuse(e)
	}
	s := shape{allow: list.Allow, body: bodyOf(l[1:]), isSpecials: map[name]bool{}}
	for _, item := range list.Items {
		if item.Kind == lambda.Aux {
			s.aux = append(s.aux, binding{variable: item.Var, init: item.Init})
			continue
		}
		s.items = append(s.items, item)
		for _, f := range variablesOf(item) {
			s.isSpecials[nameOf(f)] = c.isSpecial(f, s.body)
		}
	}
	c.mark(s.aux, s.body)
	return s
}

// variablesOf returns the variables of a parameter: its own, and the one that tells whether it was given.
func variablesOf(item lambda.Item) []api.Form {
	if item.Given.Kind == 0 {
		return []api.Form{item.Var}
	}
	return []api.Form{item.Var, item.Given}
}
