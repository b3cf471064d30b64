package core

import (
	"commonform/api"
	"commonform/forms"
)

// A converter gives numbers to variables, blocks and tags, in the order in which it meets them.
type converter struct {
	specials map[name]bool
	special  map[string]func(*converter, []api.Form, *scope) api.Core // special forms, by their names
	next     [numberings]int
}

// Convert returns the core tree of an expanded form.
func Convert(f api.Form, specials []api.Form) (c api.Core, e api.Errno) {
	if e := forms.Check(f); e != api.OK {
		return api.Core{}, e
	}
	if hasLabel(f) {
		return api.Core{}, api.ErrForm
	}
	k := &converter{specials: map[name]bool{}, special: specialForms()}
	for _, s := range specials {
		k.specials[nameOf(s)] = s.Kind == api.FormSymbol
	}
	e = caught(func() { c = k.form(f, nil) })
	if _, ok := measure(c); e == api.OK && !ok {
		e = api.ErrSize
	}
	if e != api.OK {
		return api.Core{}, e
	}
	return c, api.OK
}

func hasLabel(f api.Form) bool {
	if f.Kind == api.FormLabel {
		return true
	}
	for _, k := range f.Kids {
		if hasLabel(k) {
			return true
		}
	}
	return false
}

// specialForms returns what makes nodes of special forms.
func specialForms() map[string]func(*converter, []api.Form, *scope) api.Core {
	return map[string]func(*converter, []api.Form, *scope) api.Core{
		"QUOTE":                (*converter).quote,
		"FUNCTION":             (*converter).function,
		"IF":                   (*converter).branch,
		"PROGN":                (*converter).progn,
		"LET":                  (*converter).let,
		"LET*":                 (*converter).letInOrder,
		"SETQ":                 (*converter).setq,
		"BLOCK":                (*converter).block,
		"RETURN-FROM":          (*converter).returnFrom,
		"TAGBODY":              (*converter).tagbody,
		"GO":                   (*converter).goTo,
		"CATCH":                (*converter).catch,
		"THROW":                (*converter).throw,
		"UNWIND-PROTECT":       (*converter).protect,
		"MULTIPLE-VALUE-CALL":  (*converter).valuesCall,
		"MULTIPLE-VALUE-PROG1": (*converter).valuesFirst,
		"PROGV":                (*converter).progv,
		"FLET":                 (*converter).flet,
		"LABELS":               (*converter).labels,
		"LOCALLY":              (*converter).locally,
		"THE":                  (*converter).the,
		"LOAD-TIME-VALUE":      (*converter).loadTimeValue,
	}
}

// fresh returns the next number.
func (c *converter) fresh(numbering int) int {
	n := c.next[numbering]
	c.next[numbering]++
	return n
}

func node(op int, kids ...api.Core) api.Core { return api.Core{Op: op, Kids: kids} }

func constant(f api.Form) api.Core { return api.Core{Op: api.CoreConst, Data: copiedForm(f)} }

func local(n int) api.Core { return api.Core{Op: api.CoreVar, N: n} }

// form converts any form.
func (c *converter) form(f api.Form, s *scope) api.Core {
	switch {
	case f.Kind == api.FormCons:
		return c.list(elements(f), s)
	case f.Kind == api.FormSymbol && !isConstant(f):
		return c.symbol(f, s)
	}
	return constant(f)
}

func (c *converter) forms(l []api.Form, s *scope) []api.Core {
	var all []api.Core
	for _, f := range l {
		all = append(all, c.form(f, s))
	}
	return all
}

func (c *converter) symbol(f api.Form, s *scope) api.Core {
	if n, ok := s.variable(f); ok {
		return local(n)
	}
	return c.global(api.CoreSpecial, f, nil, s)
}

// list converts a special form or a call.
func (c *converter) list(l []api.Form, s *scope) api.Core {
	head, rest := l[0], l[1:]
	if head.Kind == api.FormCons {
		called := c.lambdaForm(head, s)
		return node(api.CoreCall, append([]api.Core{called}, c.forms(rest, s)...)...)
	}
	if head.Home == lisp && head.Kind == api.FormSymbol {
		if convert := c.special[head.Text]; convert != nil {
			return convert(c, rest, s)
		}
	}
	needFunctionName(head)
	if n, ok := s.numbered(function, head); ok {
		return node(api.CoreCall, append([]api.Core{local(n)}, c.forms(rest, s)...)...)
	}
	return c.global(api.CoreCallGlobal, head, rest, s)
}

// needFunctionName refuses what cannot be the name of a function.
func needFunctionName(f api.Form) {
	need(f.Kind == api.FormSymbol && !isConstant(f))
}

// global makes a node with the name of a special variable or a global function.
func (c *converter) global(op int, f api.Form, kids []api.Form, s *scope) api.Core {
	need(f.Home != "")
	return api.Core{Op: op, Data: copiedForm(f), Kids: c.forms(kids, s)}
}

func (c *converter) quote(l []api.Form, _ *scope) api.Core {
	return constant(counted(l, 1, 1)[0])
}

func (c *converter) function(l []api.Form, s *scope) api.Core {
	f := counted(l, 1, 1)[0]
	if f.Kind == api.FormCons {
		return c.lambdaForm(f, s)
	}
	needFunctionName(f)
	if n, ok := s.numbered(function, f); ok {
		return local(n)
	}
	return c.global(api.CoreFunction, f, nil, s)
}

func (c *converter) branch(l []api.Form, s *scope) api.Core {
	l = counted(l, 2, 3)
	if len(l) == 2 {
		l = []api.Form{l[0], l[1], forms.Nil()}
	}
	return node(api.CoreIf, c.forms(l, s)...)
}

// progn converts forms one behind the other. One form stands for itself.
func (c *converter) progn(l []api.Form, s *scope) api.Core {
	if len(l) == 1 {
		return c.form(l[0], s)
	}
	return node(api.CoreProgn, c.forms(l, s)...)
}

// body converts the forms of a body, in which variables are declared special.
func (c *converter) body(b body, s *scope) api.Core {
	return c.progn(b.forms, s.withSpecials(b.declared))
}

func (c *converter) locally(l []api.Form, s *scope) api.Core {
	return c.body(bodyOf(l), s)
}

func (c *converter) setq(l []api.Form, s *scope) api.Core {
	need(len(l)%2 == 0)
	for i := 0; i < len(l); i += 2 {
		need(isVariable(l[i]))
	}
	var all []api.Core
	for i := 0; i < len(l); i += 2 {
		all = append(all, c.set(l[i], l[i+1], s))
	}
	switch len(all) {
	case 0:
		return constant(forms.Nil())
	case 1:
		return all[0]
	}
	return node(api.CoreProgn, all...)
}

func (c *converter) set(variable, value api.Form, s *scope) api.Core {
	if n, ok := s.variable(variable); ok {
		return api.Core{Op: api.CoreSet, N: n, Kids: []api.Core{c.form(value, s)}}
	}
	return c.global(api.CoreSetSpecial, variable, []api.Form{value}, s)
}

// let converts a LET: all inits stand outside of the scope.
func (c *converter) let(l []api.Form, s *scope) api.Core {
	var bindings []binding
	met := map[name]bool{}
	for _, f := range elements(counted(l, 1, -1)[0]) {
		b := bindingOf(f)
		if met[nameOf(b.variable)] {
			refuse(api.ErrTwice)
		}
		met[nameOf(b.variable)] = true
		bindings = append(bindings, b)
	}
	inner := bodyOf(l[1:])
	c.mark(bindings, inner)
	return c.bind(bindings, s, func(s *scope) api.Core { return c.body(inner, s) })
}

// letInOrder converts a LET*.
func (c *converter) letInOrder(l []api.Form, s *scope) api.Core {
	var bindings []binding
	for _, f := range elements(counted(l, 1, -1)[0]) {
		bindings = append(bindings, bindingOf(f))
	}
	inner := bodyOf(l[1:])
	c.mark(bindings, inner)
	return c.bindInOrder(bindings, s, func(s *scope) api.Core { return c.body(inner, s) })
}

// bindInOrder binds each variable inside of the one ahead.
func (c *converter) bindInOrder(l []binding, s *scope, inner func(*scope) api.Core) api.Core {
	if len(l) == 0 {
		return inner(s)
	}
	return c.bind(l[:1], s, func(s *scope) api.Core { return c.bindInOrder(l[1:], s, inner) })
}

// bind binds variables around what inner makes in their scope. If there are both sorts of them, the special ones get their values from fresh lexical ones.
func (c *converter) bind(l []binding, s *scope, inner func(*scope) api.Core) api.Core {
	var inits, values []api.Core
	var syms []api.Form
	for _, b := range l {
		inits = append(inits, c.form(b.init, s))
		if b.isSpecial {
			syms = append(syms, copiedForm(b.variable))
		}
	}
	if len(syms) == len(l) {
		for _, f := range syms {
			s = s.with(special, f, 0)
		}
		return bound(syms, inits, inner(s))
	}
	var vars []int
	for _, b := range l {
		n := c.fresh(variables)
		vars = append(vars, n)
		if b.isSpecial {
			values = append(values, local(n))
			s = s.with(special, b.variable, 0)
		} else {
			s = s.with(lexical, b.variable, n)
		}
	}
	kids := append(inits, bound(syms, values, inner(s)))
	return api.Core{Op: api.CoreLet, Vars: vars, Kids: kids}
}

// bound binds special variables around a node.
func bound(syms []api.Form, values []api.Core, inner api.Core) api.Core {
	if len(syms) == 0 {
		return inner
	}
	return api.Core{Op: api.CoreBind, Syms: syms, Kids: append(values, inner)}
}

// lambdaForm converts a list that begins with LAMBDA.
func (c *converter) lambdaForm(f api.Form, s *scope) api.Core {
	parts := elements(f)
	need(forms.Is(parts[0], lisp, "LAMBDA"))
	return c.lambda(c.shapeOf(parts[1:]), s)
}

// lambda converts a function. Its parameters are numbered one by one, each behind its init.
func (c *converter) lambda(f shape, s *scope) api.Core {
	made := api.Core{Op: api.CoreLambda}
	if f.allow {
		made.N = 1
	}
	var syms []api.Form
	var values []api.Core
	bind := func(v api.Form) int {
		n := c.fresh(variables)
		s = s.with(lexical, v, n)
		if f.isSpecials[nameOf(v)] {
			syms, values = append(syms, copiedForm(v)), append(values, local(n))
		}
		return n
	}
	for _, item := range f.items {
		p := api.Param{Kind: item.Kind, Given: none, Key: copiedForm(item.Key)}
		if hasInit(p) {
			made.Kids = append(made.Kids, c.form(item.Init, s))
		}
		p.Var = bind(item.Var)
		if item.Given.Kind != 0 {
			p.Given = bind(item.Given)
		}
		made.Pars = append(made.Pars, p)
	}
	inner := c.bindInOrder(f.aux, s.withSpecials(syms), func(s *scope) api.Core { return c.functionBody(f, s) })
	made.Kids = append(made.Kids, bound(syms, values, inner))
	return made
}

// functionBody converts the forms of a function, which stand in a block if it has a name.
func (c *converter) functionBody(f shape, s *scope) api.Core {
	if f.name.Kind == 0 {
		return c.body(f.body, s)
	}
	n := c.fresh(blocks)
	inner := c.body(f.body, s.with(block, f.name, n))
	return api.Core{Op: api.CoreBlock, N: n, Kids: []api.Core{inner}}
}

// shapes reads the definitions of local functions.
func (c *converter) shapes(f api.Form) []shape {
	var all []shape
	for _, x := range elements(f) {
		l := counted(elements(x), 2, -1)
		needFunctionName(l[0])
		made := c.shapeOf(l[1:])
		made.name = l[0]
		all = append(all, made)
	}
	return all
}

func (c *converter) flet(l []api.Form, s *scope) api.Core {
	functions := c.shapes(counted(l, 1, -1)[0])
	inner := bodyOf(l[1:])
	made := node(api.CoreLet)
	for _, f := range functions {
		made.Kids = append(made.Kids, c.lambda(f, s))
	}
	s = c.bindFunctions(&made, functions, s)
	made.Kids = append(made.Kids, c.body(inner, s))
	return made
}

func (c *converter) labels(l []api.Form, s *scope) api.Core {
	functions := c.shapes(counted(l, 1, -1)[0])
	inner := bodyOf(l[1:])
	made := node(api.CoreLabels)
	s = c.bindFunctions(&made, functions, s)
	for _, f := range functions {
		made.Kids = append(made.Kids, c.lambda(f, s))
	}
	made.Kids = append(made.Kids, c.body(inner, s))
	return made
}

// bindFunctions gives variables to local functions, and returns the scope in which they have them.
func (c *converter) bindFunctions(made *api.Core, functions []shape, s *scope) *scope {
	for _, f := range functions {
		n := c.fresh(variables)
		made.Vars = append(made.Vars, n)
		s = s.with(function, f.name, n)
	}
	return s
}
