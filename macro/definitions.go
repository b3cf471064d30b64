package macro

import (
	"strconv"

	"commonform/api"
	"commonform/forms"
	"commonform/lambda"
)

func integer(n int) api.Form { return api.Form{Kind: api.FormInt, Text: strconv.Itoa(n)} }

// functionOf returns the symbol whose function is defined for a name, and the name of its block.
func functionOf(f api.Form) (symbol, block api.Form) {
	if isSymbol(f) {
		return f, f
	}
	parts := counted(items(f), 2, 2)
	need(forms.Is(parts[0], lisp, "SETF"))
	s := named(parts[1])
	return forms.Symbol(s.Home, "(SETF "+s.Text+")"), s
}

// function returns a FUNCTION form of a lambda list and a body.
func function(parameters api.Form, body ...api.Form) api.Form {
	return call("FUNCTION", around(body, "LAMBDA", parameters))
}

// bodyIn returns declarations, and a block with the forms behind them.
func bodyIn(name api.Form, l []api.Form) []api.Form {
	declarations, body := divide(l)
	return append(declarations, around(body, "BLOCK", name))
}

func (m *maker) defun(l []api.Form) api.Form {
	counted(l, 2, -1)
	name, block := functionOf(l[0])
	made := function(l[1], bodyIn(block, withoutText(l[2:]))...)
	return call("PROGN", call("%FSET", quote(name), made), quote(name))
}

// valued returns the variable of a definition, and its value, if it has one; a text may stand behind it.
func valued(l []api.Form, least int) (v api.Form, value []api.Form) {
	counted(l, least, 3)
	need(len(l) < 3 || l[2].Kind == api.FormString)
	return variable(l[0]), l[1:min(2, len(l))]
}

func (m *maker) defvar(l []api.Form) api.Form {
	v, value := valued(l, 1)
	if len(value) == 0 {
		return quote(v)
	}
	put := call("SET", quote(v), value[0])
	return call("PROGN", call("IF", call("BOUNDP", quote(v)), forms.Nil(), put), quote(v))
}

func (m *maker) defparameter(l []api.Form) api.Form {
	v, value := valued(l, 2)
	return call("PROGN", call("SET", quote(v), value[0]), quote(v))
}

func (m *maker) defmacro(l []api.Form) api.Form {
	return quote(named(counted(l, 1, -1)[0]))
}

func (m *maker) declaim([]api.Form) api.Form { return forms.Nil() }

// combination returns the method combination that options tell, and looks at all of them.
func combination(options []api.Form) api.Form {
	found := symbol("STANDARD")
	isFound := false
	for _, c := range clauses(options) {
		if !forms.Is(c[0], keywords, "METHOD-COMBINATION") {
			continue
		}
		named(counted(c, 2, 2)[1])
		if !isFound {
			found = c[1]
		}
		isFound = true
	}
	return found
}

// required returns how many required parameters a lambda list for functions has.
func required(f api.Form) int {
	l, e := lambda.Parse(f, false)
	if e != api.OK {
		refuse(e)
	}
	n := 0
	for _, item := range l.Items {
		if item.Kind == lambda.Required {
			n++
		}
	}
	return n
}

func (m *maker) defgeneric(l []api.Form) api.Form {
	counted(l, 2, -1)
	name, _ := functionOf(l[0])
	n := required(l[1])
	made := call("%DEFGENERIC", quote(name), quote(combination(l[2:])), integer(n))
	a := m.fresh()
	caller := function(list(symbol("&REST"), a), call("%CALL-GENERIC", quote(name), a))
	return call("PROGN", made, call("%FSET", quote(name), caller), quote(name))
}

// specialized divides the lambda list of a method into one of variables alone, and the forms of its specializers.
func specialized(f api.Form) (parameters api.Form, specs []api.Form) {
	l := items(f)
	for i, p := range l {
		if isSymbol(p) && !isVariable(p) { // a marker ends the required parameters
			break
		}
		spec := quote(symbol("T"))
		if !isSymbol(p) {
			l[i], spec = specializer(p)
		}
		specs = append(specs, spec)
	}
	parameters = forms.List(l)
	required(parameters)
	return parameters, specs
}

// specializer returns the variable of a parameter, and the form of its specializer.
func specializer(f api.Form) (v, spec api.Form) {
	pair := counted(items(f), 2, 2)
	v = variable(pair[0])
	if isSymbol(pair[1]) {
		return v, quote(pair[1])
	}
	parts := counted(items(pair[1]), 2, 2)
	need(forms.Is(parts[0], lisp, "EQL"))
	return v, call("LIST", quote(parts[0]), parts[1])
}

func (m *maker) defmethod(l []api.Form) api.Form {
	counted(l, 2, -1)
	name, block := functionOf(l[0])
	n := 1
	for n < len(l) && isSymbol(l[n]) && !forms.IsNil(l[n]) {
		n++
	}
	need(n < len(l))
	parameters, specs := specialized(l[n])
	method := m.method(function(parameters, bodyIn(block, l[n+1:])...))
	generic := call("IF", call("%GENERIC-P", quote(name)), forms.Nil(), call("DEFGENERIC", name, parameters))
	made := call("%DEFMETHOD", quote(name), quote(forms.List(l[1:n])), call("LIST", specs...), method)
	return call("PROGN", generic, made, quote(name))
}

// method returns the function of a method, which gets the function of the next method and a list of arguments.
func (m *maker) method(f api.Form) api.Form {
	all := m.some(3)
	a, b, c := all[0], all[1], all[2]
	rest := symbol("&REST")
	next := call("IF", a, call("APPLY", a, call("IF", c, c, b)), call("%NO-NEXT-METHOD"))
	isNext := call("IF", a, symbol("T"), forms.Nil())
	functions := list(call("CALL-NEXT-METHOD", list(rest, c), next), call("NEXT-METHOD-P", forms.Nil(), isNext))
	return function(list(a, rest, b), call("FLET", functions, call("APPLY", f, b)))
}
