package macro

import (
	"slices"

	"commonform/api"
	"commonform/forms"
)

// special expands the parts of a special form that are evaluated.
func (x *walker) special(name string, l []api.Form, s *scope, depth int) api.Form {
	first, end := 0, len(l)
	switch name {
	case "FUNCTION":
		return call(name, x.functionName(counted(l, 1, 1)[0], s, depth+1))
	case "LET", "LET*":
		return x.let(name, counted(l, 1, -1), s, depth)
	case "FLET", "LABELS":
		return x.flet(name, counted(l, 1, -1), s, depth)
	case "SETQ":
		return x.setq(l, s, depth)
	case "TAGBODY":
		return x.tagbody(l, s, depth)
	case "LOCALLY":
		return call(name, x.body(l, s, depth+1)...)
	case "MACROLET", "SYMBOL-MACROLET", "EVAL-WHEN":
		return x.environment(name, counted(l, 1, -1), s, depth)
	case "GO":
		need(isTag(counted(l, 1, 1)[0]))
		fallthrough
	case "QUOTE":
		counted(l, 1, 1)
		end = 0
	case "LOAD-TIME-VALUE":
		counted(l, 1, 2)
		end = 1
	case "RETURN-FROM":
		counted(l, 1, 2)
		fallthrough
	case "BLOCK":
		named(counted(l, 1, -1)[0])
		first = 1
	case "THE":
		counted(l, 2, 2)
		first = 1
	case "IF":
		counted(l, 2, 3)
	case "THROW":
		counted(l, 2, 2)
	case "PROGV":
		counted(l, 2, -1)
	case "CATCH", "UNWIND-PROTECT", "MULTIPLE-VALUE-CALL", "MULTIPLE-VALUE-PROG1":
		counted(l, 1, -1)
	}
	made := x.forms(l[first:end], s, depth+1)
	return call(name, slices.Concat(l[:first], made, l[end:])...)
}

// functionName expands what stands behind FUNCTION.
func (x *walker) functionName(f api.Form, s *scope, depth int) api.Form {
	if f.Kind == api.FormCons {
		return x.lambda(f, s, depth)
	}
	return functionSymbol(f)
}

// functionSymbol returns a form that must be the name of a function.
func functionSymbol(f api.Form) api.Form {
	need(isSymbol(f) && !isConstant(f))
	return f
}

// let expands a LET or a LET*, in which inits stand in the scope of the variables ahead.
func (x *walker) let(name string, l []api.Form, s *scope, depth int) api.Form {
	bindings := items(l[0])
	for _, b := range bindings {
		boundBy(b)
	}
	inner := s
	for i, b := range bindings {
		outer := s
		if name == "LET*" {
			outer = inner
		}
		if b.Kind == api.FormCons && len(b.Kids) > 2 {
			bindings[i].Kids[1] = x.form(b.Kids[1], outer, depth+3)
		}
		inner = inner.withVariable(boundBy(b))
	}
	return around(x.body(l[1:], inner, depth+1), name, forms.List(bindings))
}

// boundBy returns the variable of a binding.
func boundBy(f api.Form) api.Form {
	if isSymbol(f) {
		return variable(f)
	}
	return variable(counted(items(f), 1, 2)[0])
}

// flet expands an FLET, or a LABELS, in which functions stand in the scope of all of them.
func (x *walker) flet(name string, l []api.Form, s *scope, depth int) api.Form {
	definitions := items(l[0])
	inner := s
	for _, f := range definitions {
		inner = inner.withFunction(functionSymbol(counted(items(f), 2, -1)[0]))
	}
	outer := s
	if name == "LABELS" {
		outer = inner
	}
	for i, f := range definitions {
		parts := items(f)
		definitions[i] = list(slices.Concat(parts[:1], x.function(parts[1:], outer, depth+3))...)
	}
	return around(x.body(l[1:], inner, depth+1), name, forms.List(definitions))
}

// setq expands the values of a SETQ. Where it sets a symbol macro, each pair becomes a form of its own, and what the symbol macro stands for is written.
func (x *walker) setq(l []api.Form, s *scope, depth int) api.Form {
	need(len(l)%2 == 0)
	var all, parts []api.Form
	isPlain := true
	for pair := range slices.Chunk(l, 2) {
		expansion, ok := s.symbol(variable(pair[0]))
		if !ok {
			all = append(all, call("SETQ", pair...))
			continue
		}
		isPlain = false
		x.count()
		all = append(all, call("SETF", expansion, pair[1]))
	}
	switch {
	case !isPlain && len(all) == 1:
		return x.form(all[0], s, depth)
	case !isPlain:
		return x.form(call("PROGN", all...), s, depth)
	}
	for pair := range slices.Chunk(l, 2) {
		parts = append(parts, pair[0], x.form(pair[1], s, depth+1))
	}
	return call("SETQ", parts...)
}

// tagbody expands the forms of a TAGBODY. One that becomes a symbol or an integer is no tag.
func (x *walker) tagbody(l []api.Form, s *scope, depth int) api.Form {
	var all []api.Form
	for _, f := range l {
		if !isTag(f) {
			f = x.form(f, s, depth+1)
			if isTag(f) {
				f = call("PROGN", f)
			}
		}
		all = append(all, f)
	}
	return call("TAGBODY", all...)
}

// environment expands a form that changes what names mean, or that counts in some situations alone.
func (x *walker) environment(name string, l []api.Form, s *scope, depth int) api.Form {
	definitions := items(l[0])
	switch name {
	case "MACROLET":
		for _, f := range definitions {
			parts := counted(items(f), 2, -1)
			s = s.withMacro(named(parts[0]), x.macroFunction(parts))
		}
	case "SYMBOL-MACROLET":
		for _, f := range definitions {
			parts := counted(items(f), 2, 2)
			s = s.withSymbol(variable(parts[0]), parts[1])
		}
	default:
		if !slices.ContainsFunc(definitions, isNow) {
			return forms.Nil()
		}
		return call("PROGN", x.forms(l[1:], s, depth+1)...)
	}
	return call("LOCALLY", x.body(l[1:], s, depth+1)...)
}

// isNow reports whether a situation of EVAL-WHEN is one in which forms are evaluated.
func isNow(f api.Form) bool {
	return forms.Is(f, keywords, "EXECUTE") || forms.Is(f, keywords, "LOAD-TOPLEVEL") || forms.Is(f, lisp, "EVAL") || forms.Is(f, lisp, "LOAD")
}
