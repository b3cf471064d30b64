package macro

import (
	"slices"

	"commonform/api"
	"commonform/forms"
	"commonform/lambda"
	"commonform/lib"
	"commonform/meaning"
)

// A walker expands a form from the outside to the inside.
type walker struct {
	maker
	w        *lib.World
	table    Table
	standard map[string]func(*maker, []api.Form) api.Form
	calls    int // of macros that were expanded
}

func newWalker(w *lib.World, t Table, fresh int) *walker {
	return &walker{maker: maker{fresh}, w: w, table: t, standard: standardMacros()}
}

// whole expands a form outside of all environments.
func (x *walker) whole(f api.Form) api.Form {
	made := checked(x.form(checked(f), nil, 1))
	need(!hasLabel(made))
	return made
}

// form expands a form that stands so deep in the whole one.
func (x *walker) form(f api.Form, s *scope, depth int) api.Form {
	if depth > api.MaxDepth {
		refuse(api.ErrDepth)
	}
	for {
		next, ok := x.step(f, s, depth == 1)
		if !ok {
			break
		}
		f = next
	}
	switch f.Kind {
	case api.FormCons:
		return x.compound(f, s, depth)
	case api.FormLabel, api.FormRef:
		refuse(api.ErrForm)
	}
	return f
}

func (x *walker) forms(l []api.Form, s *scope, depth int) []api.Form {
	var all []api.Form
	for _, f := range l {
		all = append(all, x.form(f, s, depth))
	}
	return all
}

// count counts a call of a macro that is expanded.
func (x *walker) count() {
	x.calls++
	if x.calls > mostCalls {
		refuse(api.ErrDepth)
	}
}

// step expands a form once, if it is a symbol macro or a call of a macro.
func (x *walker) step(f api.Form, s *scope, isTop bool) (api.Form, bool) {
	if expansion, ok := s.symbol(f); ok {
		x.count()
		return expansion, true
	}
	if f.Kind != api.FormCons || !isSymbol(f.Kids[0]) || isSpecial(f.Kids[0]) {
		return f, false
	}
	expand := x.given(f)
	user := x.table.macro(f.Kids[0])
	if local := s.find(f.Kids[0], true); local != nil {
		expand, user = nil, local.lambda
	}
	if user != nil {
		expand = func(f api.Form) api.Form { return x.apply(*user, f) }
	}
	if expand == nil {
		return f, false
	}
	x.count()
	need(isTop || user != nil || !x.isForTop(f.Kids[0]))
	need(forms.Check(f) == api.OK) // a part of a right form may refer to a label outside of it
	return checked(expand(f)), true
}

// isForTop reports whether a symbol means a standard macro that is called at the top alone.
func (x *walker) isForTop(f api.Form) bool {
	isDefinition := forms.Is(f, lisp, "DEFMACRO") || forms.Is(f, lisp, "DECLAIM")
	return isDefinition && x.table.expander(f) == nil
}

// apply expands a call of a user macro. Its function is not made a closure, which the world would keep: its body is run with the argument bound around it.
func (x *walker) apply(function api.Core, f api.Form) api.Form {
	isFunction := function.Op == api.CoreLambda && len(function.Kids) == 1 && len(function.Pars) == 1
	need(isFunction && function.Pars[0].Kind == api.ParamRequired)
	elements, tail := forms.Spread(f)
	arg := api.Core{Op: api.CoreConst, Data: forms.Dotted(elements[1:], tail)}
	run := api.Core{Op: api.CoreLet, Vars: []int{function.Pars[0].Var}, Kids: []api.Core{arg, function.Kids[0]}}
	end, _ := meaning.Run(x.w, run, mostSteps)
	if end.Kind != lib.EndValues {
		panic(failure{end})
	}
	if len(end.Values) == 0 {
		return forms.Nil()
	}
	shown, e := x.w.Show(end.Values[0])
	if e == api.OK {
		shown, e = forms.Plain(shown)
	}
	if e != api.OK {
		refuse(e)
	}
	return shown
}

// expander returns what expands calls of a macro of another layer, nil if there is none.
func (t Table) expander(f api.Form) *Named {
	for i, n := range t.Expanders {
		if forms.Is(f, lisp, n.Name) {
			return &t.Expanders[i]
		}
	}
	return nil
}

// given returns what expands a call of an expander or of a standard macro, nil for other forms.
func (x *walker) given(f api.Form) func(api.Form) api.Form {
	if f.Kind != api.FormCons || !isSymbol(f.Kids[0]) || isSpecial(f.Kids[0]) {
		return nil
	}
	if n := x.table.expander(f.Kids[0]); n != nil {
		return func(f api.Form) api.Form { return x.ask(n.Expand, f) }
	}
	home := lisp
	if f.Kids[0].Text == "BACKQUOTE" {
		home = reading
	}
	expand := x.standard[f.Kids[0].Text]
	if expand == nil || f.Kids[0].Home != home {
		return nil
	}
	return func(f api.Form) api.Form { return expand(&x.maker, items(f)[1:]) }
}

// ask expands a call by an expander of another layer.
func (x *walker) ask(expand Expander, f api.Form) api.Form {
	made, next, e := guarded(expand, f, x.next)
	if e != api.OK {
		refuse(e)
	}
	x.next = next
	return made
}

// guarded calls an expander that somebody handed in. It may be nil, or panic.
func guarded(expand Expander, f api.Form, fresh int) (made api.Form, next int, e api.Errno) {
	defer func() {
		if recover() != nil {
			made, next, e = api.Form{}, 0, api.ErrArg
		}
	}()
	return expand(copied(f), fresh)
}

// compound expands the parts of a special form, or of a call of a function.
func (x *walker) compound(f api.Form, s *scope, depth int) api.Form {
	l := items(f)
	head, rest := l[0], l[1:]
	if head.Kind == api.FormCons {
		head = x.lambda(head, s, depth+1)
	} else {
		need(isSymbol(head) && !isConstant(head))
		if isSpecial(head) {
			return x.special(head.Text, rest, s, depth)
		}
	}
	return list(slices.Concat([]api.Form{head}, x.forms(rest, s, depth+1))...)
}

// body expands the forms of a body behind its declarations. None of them may become a declaration.
func (x *walker) body(l []api.Form, s *scope, depth int) []api.Form {
	all, rest := divide(l)
	for _, f := range rest {
		made := x.form(f, s, depth)
		need(!isDeclaration(made))
		all = append(all, made)
	}
	return all
}

// lambda expands the inits and the body of a list that begins with LAMBDA.
func (x *walker) lambda(f api.Form, s *scope, depth int) api.Form {
	l := counted(items(f), 2, -1)
	need(forms.Is(l[0], lisp, "LAMBDA"))
	return call("LAMBDA", x.function(l[1:], s, depth+1)...)
}

// function expands a lambda list and the body behind it.
func (x *walker) function(l []api.Form, s *scope, depth int) []api.Form {
	parameters, inner := x.parameters(l[0], s, depth)
	return slices.Concat([]api.Form{parameters}, x.body(l[1:], inner, depth))
}

// parameters expands the inits of a lambda list, and returns the scope in which its variables are bound.
func (x *walker) parameters(f api.Form, s *scope, depth int) (api.Form, *scope) {
	l, e := lambda.Parse(f, false)
	if e == api.ErrTwice {
		refuse(e)
	}
	need(e == api.OK)
	elements := items(f)
	for i, p := range elements {
		isMarker := isSymbol(p) && !isVariable(p)
		if isMarker {
			continue
		}
		item := l.Items[0]
		l.Items = l.Items[1:]
		if p.Kind == api.FormCons && len(p.Kids) > 2 {
			elements[i].Kids[1] = x.form(p.Kids[1], s, depth+2)
		}
		s = s.withVariable(item.Var)
		if isSymbol(item.Given) {
			s = s.withVariable(item.Given)
		}
	}
	return forms.List(elements), s
}
