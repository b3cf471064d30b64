package core

import (
	"commonform/api"
	"commonform/forms"
	"commonform/lambda"
)

// A name is a symbol, or an integer that is a tag, as a key of a map.
type name struct {
	kind       int
	home, text string
}

func nameOf(f api.Form) name { return name{f.Kind, f.Home, f.Text} }

// What names mean in a scope.
const (
	lexical  = iota // a variable with a number
	special         // a variable without one
	function        // a local one
	block
	tag
)

// A scope has what one name means, inside of another scope.
type scope struct {
	outer   *scope
	meaning int
	name    name
	number  int
}

// with returns the scope in which a name means something more.
func (s *scope) with(meaning int, f api.Form, number int) *scope {
	return &scope{s, meaning, nameOf(f), number}
}

// withSpecials returns the scope in which some variables are special.
func (s *scope) withSpecials(l []api.Form) *scope {
	for _, f := range l {
		s = s.with(special, f, 0)
	}
	return s
}

// find returns the innermost part of a scope that is wanted; nil if there is none.
func (s *scope) find(isWanted func(*scope) bool) *scope {
	for s != nil && !isWanted(s) {
		s = s.outer
	}
	return s
}

// named tells the parts of a scope in which a name has a meaning.
func named(meaning int, f api.Form) func(*scope) bool {
	wanted := nameOf(f)
	return func(s *scope) bool { return s.meaning == meaning && s.name == wanted }
}

// variable returns the number of a lexical variable, if it is the innermost one of its name.
func (s *scope) variable(f api.Form) (int, bool) {
	isLexical, isSpecial := named(lexical, f), named(special, f)
	found := s.find(func(s *scope) bool { return isLexical(s) || isSpecial(s) })
	if found == nil || found.meaning == special {
		return 0, false
	}
	return found.number, true
}

// numbered returns the number that a name has, by its meaning.
func (s *scope) numbered(meaning int, f api.Form) (int, bool) {
	found := s.find(named(meaning, f))
	if found == nil {
		return 0, false
	}
	return found.number, true
}

// isVariable reports whether a form may be a variable.
func isVariable(f api.Form) bool {
	if f.Kind != api.FormSymbol {
		return false
	}
	l, e := lambda.Parse(forms.List([]api.Form{f}), false)
	return e == api.OK && len(l.Items) == 1
}

// isKeyword reports whether a form is a symbol of KEYWORD.
func isKeyword(f api.Form) bool { return f.Kind == api.FormSymbol && f.Home == keywords }

// isConstant reports whether a form is a symbol that is its own value.
func isConstant(f api.Form) bool {
	return forms.IsNil(f) || forms.Is(f, lisp, "T") || isKeyword(f)
}
