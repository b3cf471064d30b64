package reader

import (
	"slices"

	"commonform/api"
	"commonform/forms"
)

// Backquote returns the form that makes what stands behind a backquote.
func Backquote(f api.Form) (api.Form, api.Errno) {
	if e := forms.Check(f); e != api.OK {
		return api.Form{}, e
	}
	if hasLabel(f) {
		return api.Form{}, forms.ErrLabel
	}
	x := api.Form{}
	if _, e := guarded(func() { x = template(f, 1) }); e != api.OK {
		return api.Form{}, e
	}
	if nodes, depth := forms.Size(x); nodes > api.MaxForm || depth > api.MaxDepth {
		return api.Form{}, api.ErrSize
	}
	return x, api.OK
}

func hasLabel(f api.Form) bool {
	return f.Kind == api.FormLabel || slices.ContainsFunc(f.Kids, hasLabel)
}

// template returns the form that makes a part, so many backquotes deep.
func template(f api.Form, n int) api.Form {
	switch f.Kind {
	case api.FormVector:
		function := call("FUNCTION", forms.Symbol("COMMON-LISP", "VECTOR"))
		return call("APPLY", function, template(forms.List(f.Kids), n))
	case api.FormCons:
		l, tail := forms.Spread(f)
		return listTemplate(l, tail, n)
	}
	return call("QUOTE", f)
}

func call(name string, l ...api.Form) api.Form {
	return forms.Call(name, l)
}

func isComma(f api.Form) bool {
	return forms.Is(f, "READER", "COMMA")
}

func isSplice(f api.Form) bool {
	return forms.Is(f, "READER", "SPLICE")
}

// listTemplate returns the form that makes a list.
func listTemplate(l []api.Form, tail api.Form, n int) api.Form {
	isPair := len(l) == 2 && forms.IsNil(tail)
	if n == 1 && (isComma(l[0]) || isSplice(l[0])) {
		switch {
		case !isPair:
			panic(failure{e: api.ErrForm})
		case isSplice(l[0]):
			panic(failure{e: ErrComma})
		}
		return l[1]
	}
	inner := n
	switch {
	case isPair && forms.Is(l[0], "READER", "BACKQUOTE"):
		inner++
	case isPair && (isComma(l[0]) || isSplice(l[0])):
		inner--
	}
	// A comma behind a dot is read as two more elements.
	if i := len(l) - 2; i > 0 && forms.IsNil(tail) && (isComma(l[i]) || isSplice(l[i])) {
		tail = forms.List(l[i:])
		l = l[:i]
	}
	var parts []api.Form
	for _, x := range l {
		parts = append(parts, partTemplate(x, inner))
	}
	return call("APPEND", append(parts, template(tail, n))...)
}

// partTemplate returns the form that makes the list of an element, or of what is spliced in.
func partTemplate(x api.Form, n int) api.Form {
	if x.Kind == api.FormCons && len(x.Kids) == 3 && n == 1 && isSplice(x.Kids[0]) && forms.IsNil(x.Kids[2]) {
		return x.Kids[1]
	}
	return call("LIST", template(x, n))
}
