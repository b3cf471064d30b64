package macro

import (
	"slices"
	"strconv"

	"commonform/api"
	"commonform/forms"
	"commonform/lambda"
)

func symbol(name string) api.Form { return forms.Symbol(lisp, name) }

func list(l ...api.Form) api.Form { return forms.List(l) }

func call(name string, l ...api.Form) api.Form { return forms.Call(name, l) }

// around returns a call with some arguments ahead of others.
func around(behind []api.Form, name string, l ...api.Form) api.Form {
	return forms.Call(name, slices.Concat(l, behind))
}

func quote(f api.Form) api.Form { return call("QUOTE", f) }

// copied returns a form in memory of its own.
func copied(f api.Form) api.Form { return forms.Dotted(nil, f) }

// items returns the elements of a proper list.
func items(f api.Form) []api.Form {
	l, ok := forms.Items(f)
	need(ok)
	return l
}

// counted returns some elements if they are as many as there may be; most is -1 for any number.
func counted(l []api.Form, least, most int) []api.Form {
	need(len(l) >= least && (most < 0 || len(l) <= most))
	return l
}

// isVariable reports whether a form may be a variable.
func isVariable(f api.Form) bool {
	if f.Kind != api.FormSymbol {
		return false
	}
	l, e := lambda.Parse(list(f), false)
	return e == api.OK && len(l.Items) == 1
}

// variable returns a form that must be a variable.
func variable(f api.Form) api.Form {
	need(isVariable(f))
	return f
}

func isSymbol(f api.Form) bool { return f.Kind == api.FormSymbol }

// named returns a form that must be a symbol.
func named(f api.Form) api.Form {
	need(isSymbol(f))
	return f
}

// variables returns the elements of a list of variables.
func variables(f api.Form) []api.Form {
	l := items(f)
	for _, v := range l {
		variable(v)
	}
	return l
}

// isConstant reports whether a symbol is its own value, and so names no function.
func isConstant(f api.Form) bool {
	return forms.IsNil(f) || forms.Is(f, lisp, "T") || f.Home == keywords
}

// isTag reports whether a form in a TAGBODY is a tag.
func isTag(f api.Form) bool { return isSymbol(f) || f.Kind == api.FormInt }

func isDeclaration(f api.Form) bool {
	return f.Kind == api.FormCons && forms.Is(f.Kids[0], lisp, "DECLARE")
}

// divide divides a body into declarations and forms.
func divide(l []api.Form) (declarations, body []api.Form) {
	n := slices.IndexFunc(l, func(f api.Form) bool { return !isDeclaration(f) })
	if n < 0 {
		n = len(l)
	}
	return slices.Clone(l[:n]), slices.Clone(l[n:])
}

// withoutText returns a body without the text that says what it is for.
func withoutText(l []api.Form) []api.Form {
	if len(l) > 1 && l[0].Kind == api.FormString {
		return l[1:]
	}
	return l
}

// checked returns a form that must be right, and not too large.
func checked(f api.Form) api.Form {
	switch forms.Check(f) {
	case api.OK:
		return copied(f)
	case api.ErrSize:
		refuse(excess(f))
	}
	refuse(api.ErrForm)
	return api.Form{}
}

// excess returns the error of a form that is too deep, or too large.
func excess(f api.Form) api.Errno {
	nodes := 0
	var isDeep func(f api.Form, depth int) bool
	isDeep = func(f api.Form, depth int) bool {
		nodes++
		if depth > api.MaxDepth || nodes > api.MaxForm {
			return depth > api.MaxDepth
		}
		return slices.ContainsFunc(f.Kids, func(k api.Form) bool { return isDeep(k, depth+1) })
	}
	if isDeep(f, 1) {
		return api.ErrDepth
	}
	return api.ErrSize
}

func hasLabel(f api.Form) bool {
	return f.Kind == api.FormLabel || f.Kind == api.FormRef || slices.ContainsFunc(f.Kids, hasLabel)
}

// A maker makes expansions of standard macros, and takes fresh variables.
type maker struct{ next int }

func (m *maker) fresh() api.Form {
	f := forms.Symbol("%", strconv.Itoa(m.next))
	m.next++
	return f
}

// some returns so many fresh variables.
func (m *maker) some(n int) []api.Form {
	var l []api.Form
	for range n {
		l = append(l, m.fresh())
	}
	return l
}

// bind returns a LAMBDA list's variables bound around a body, as layer 18 tells.
func (m *maker) bind(parameters, from api.Form, body []api.Form) api.Form {
	l, e := lambda.Parse(parameters, true)
	if e != api.OK {
		refuse(e)
	}
	f, next, e := lambda.Bind(l, from, body, m.next)
	if e != api.OK {
		refuse(e)
	}
	m.next = next
	return f
}
