package macro

import (
	"commonform/api"
	"commonform/forms"
)

// A name is a symbol, as it is compared.
type name struct{ home, text string }

func nameOf(f api.Form) name { return name{f.Home, f.Text} }

// A scope has what one name means, inside of another scope: as the name of a function a local function or macro, otherwise a variable or a symbol macro.
type scope struct {
	outer      *scope
	name       name
	isFunction bool
	lambda     *api.Core // of a local macro
	expansion  *api.Form // of a symbol macro
}

// withVariable returns the scope in which a name is that of a variable.
func (s *scope) withVariable(f api.Form) *scope {
	return &scope{outer: s, name: nameOf(f)}
}

func (s *scope) withFunction(f api.Form) *scope {
	return &scope{outer: s, name: nameOf(f), isFunction: true}
}

func (s *scope) withMacro(f api.Form, lambda api.Core) *scope {
	return &scope{outer: s, name: nameOf(f), isFunction: true, lambda: &lambda}
}

func (s *scope) withSymbol(f, expansion api.Form) *scope {
	return &scope{outer: s, name: nameOf(f), expansion: &expansion}
}

// find returns the innermost part of a scope that says what a name means; nil if there is none.
func (s *scope) find(f api.Form, isFunction bool) *scope {
	for s != nil && (s.isFunction != isFunction || s.name != nameOf(f)) {
		s = s.outer
	}
	return s
}

// symbol returns the expansion of a symbol macro.
func (s *scope) symbol(f api.Form) (api.Form, bool) {
	if !isSymbol(f) {
		return api.Form{}, false
	}
	found := s.find(f, false)
	if found == nil || found.expansion == nil {
		return api.Form{}, false
	}
	return *found.expansion, true
}

// isSpecial reports whether a symbol begins special forms, or forms that change environments: it means no macro then.
func isSpecial(f api.Form) bool {
	if !isSymbol(f) || f.Home != lisp {
		return false
	}
	switch f.Text {
	case "QUOTE", "FUNCTION", "IF", "PROGN", "LET", "LET*", "SETQ", "BLOCK", "RETURN-FROM", "TAGBODY", "GO":
		return true
	case "CATCH", "THROW", "UNWIND-PROTECT", "MULTIPLE-VALUE-CALL", "MULTIPLE-VALUE-PROG1", "PROGV":
		return true
	case "FLET", "LABELS", "LOCALLY", "THE", "LOAD-TIME-VALUE", "MACROLET", "SYMBOL-MACROLET", "EVAL-WHEN":
		return true
	}
	return false
}

// macro returns the function of the last user macro with a name, nil if there is none.
func (t Table) macro(f api.Form) *api.Core {
	for i := len(t.Macros) - 1; i >= 0; i-- {
		if forms.Equal(t.Macros[i].Name, f) {
			return &t.Macros[i].Lambda
		}
	}
	return nil
}
