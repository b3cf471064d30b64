package types

import (
	"commonform/api"
	"commonform/forms"
)

// Of returns a type that an object has, as special as types are here.
func Of(x api.Form) (api.Form, api.Errno) {
	if e := checkObject(x); e != api.OK {
		return api.Form{}, e
	}
	return typeOf(x, 0), api.OK
}

func name(s string) api.Form {
	return forms.Symbol(lisp, s)
}

// typeOf returns a type of an object that stands in so many conses.
func typeOf(x api.Form, conses int) api.Form {
	t := bareTypeOf(x, conses)
	if nodes, _ := forms.Size(t); nodes > maxNodes {
		return name("T")
	}
	return t
}

func bareTypeOf(x api.Form, conses int) api.Form {
	switch kindOf(x) {
	case aSymbol:
		if !isMentionable(x) {
			return name("SYMBOL")
		}
		return forms.Call("EQL", []api.Form{x})
	case aFunction:
		return name("FUNCTION")
	case aTable:
		return name("HASH-TABLE")
	case another:
		return name("ATOM")
	case aCons:
		if conses == maxConses {
			return name("CONS")
		}
		return forms.Call("CONS", []api.Form{typeOf(car(x), conses+1), typeOf(cdr(x), conses+1)})
	case aString:
		return sizedType("STRING", lengthOf(x))
	case aBitVector:
		return sizedType("BIT-VECTOR", lengthOf(x))
	case aVector:
		return sizedType("SIMPLE-VECTOR", lengthOf(x))
	case anArray:
		return shapedType(dimensionsOf(x))
	}
	if forms.Number(x) && !isNumber(x) {
		return name("T") // its text is too long
	}
	return forms.Call("EQL", []api.Form{x})
}

// sizedType returns the type of vectors with a length, if there is one.
func sizedType(kind string, length int) api.Form {
	if length > maxLength {
		return name(kind)
	}
	return forms.Call(kind, []api.Form{integerOf(length)})
}

// shapedType returns the type of arrays with dimensions, if there is one.
func shapedType(dims []int) api.Form {
	var l []api.Form
	for _, d := range dims {
		l = append(l, integerOf(d))
	}
	t := forms.Call("ARRAY", []api.Form{name("*"), forms.List(l)})
	if Check(t) != api.OK {
		return name("ARRAY")
	}
	return t
}
