package types

import (
	"slices"
	"strconv"

	"commonform/api"
	"commonform/forms"
	"commonform/number"
)

const (
	maxNodes     = 100
	maxConses    = 4 // inside of one another
	maxText      = 200
	maxLength    = 50
	maxRank      = 4
	maxDimension = 4
	maxWidth     = 200        // of bytes
	maxModulus   = 1000000000 // of MOD
)

// read returns the spec of a type specifier, and its error.
func read(t api.Form) (s *spec, e api.Errno) {
	if forms.Check(t) != api.OK {
		return nil, ErrType
	}
	if nodes, _ := forms.Size(t); nodes > maxNodes {
		return nil, ErrType
	}
	defer func() {
		switch x := recover().(type) {
		case nil:
		case api.Errno:
			s, e = nil, x
		default:
			panic(x)
		}
	}()
	r := &reader{kindNames()}
	return r.spec(t, 0), api.OK
}

// A reader reads type specifiers. It panics with ErrType for what is none.
type reader struct {
	names map[string]kindSet
}

func need(holds bool) {
	if !holds {
		panic(ErrType)
	}
}

func isStar(x api.Form) bool {
	return forms.Is(x, lisp, "*")
}

// spec reads a type specifier that stands in so many CONS.
func (r *reader) spec(t api.Form, conses int) *spec {
	if t.Kind == api.FormSymbol {
		need(t.Home == lisp)
		return r.name(t.Text)
	}
	l, isList := forms.Items(t)
	need(isList && l[0].Kind == api.FormSymbol && l[0].Home == lisp)
	name, l := l[0].Text, l[1:]
	switch name {
	case "AND":
		return &spec{op: opAnd, parts: r.specs(l, conses)}
	case "OR":
		return either(r.specs(l, conses)...)
	case "NOT":
		need(len(l) == 1)
		return none(r.spec(l[0], conses))
	case "CONS":
		return r.cons(l, conses+1)
	case "MEMBER":
		return members(l)
	case "EQL":
		need(len(l) == 1)
		return members(l)
	case "INTEGER", "RATIONAL", "REAL", "FLOAT", "SINGLE-FLOAT", "DOUBLE-FLOAT":
		return between(r.names[name], l)
	case "UNSIGNED-BYTE", "SIGNED-BYTE", "MOD":
		need(len(l) == 1)
		return bytes(name, l[0])
	case "STRING", "BIT-VECTOR", "SIMPLE-VECTOR":
		need(len(l) == 1)
		return sized(r.names[name], l[0], maxLength)
	case "VECTOR":
		need(len(l) == 2 && isStar(l[0]))
		return sized(vectors, l[1], maxLength)
	case "ARRAY":
		need(len(l) == 2 && isStar(l[0]))
		return shaped(l[1])
	}
	panic(ErrType)
}

// name reads a type that is a name.
func (r *reader) name(s string) *spec {
	if set, some := r.names[s]; some {
		return ofKinds(set)
	}
	t := named(s)
	need(t != nil)
	return t
}

func (r *reader) specs(l []api.Form, conses int) []*spec {
	var parts []*spec
	for _, t := range l {
		parts = append(parts, r.spec(t, conses))
	}
	return parts
}

// cons reads the types of car and cdr.
func (r *reader) cons(l []api.Form, conses int) *spec {
	need(len(l) <= 2 && conses <= maxConses)
	parts := []*spec{ofKinds(everything), ofKinds(everything)}
	for i, t := range l {
		if !isStar(t) {
			parts[i] = r.spec(t, conses)
		}
	}
	return &spec{op: opCons, parts: parts}
}

// isNumber reports whether a form is a number that may stand in a type specifier.
func isNumber(x api.Form) bool {
	isLong := func(f api.Form) bool { return len(f.Text) > maxText }
	return number.Check(x) == api.OK && !isLong(x) && !slices.ContainsFunc(x.Kids, isLong)
}

// members reads the objects of MEMBER and EQL.
func members(l []api.Form) *spec {
	for _, x := range l {
		need(isMentionable(x) && (!forms.Number(x) || isNumber(x)))
	}
	return member(l...)
}

// between reads the bounds of numbers of some kinds.
func between(s kindSet, l []api.Form) *spec {
	need(len(l) <= 2)
	var bounds [2]bound
	for i, x := range l {
		bounds[i] = boundOf(s, x)
	}
	return &spec{op: opRange, kinds: s, low: bounds[0], high: bounds[1]}
}

// boundOf reads a bound, which is a rational number for types of such numbers, and an integer for INTEGER.
func boundOf(s kindSet, x api.Form) bound {
	if isStar(x) {
		return bound{}
	}
	b := at(x)
	if l, isList := forms.Items(x); isList {
		need(len(l) == 1)
		b = bound{value: l[0], isSome: true, isOpen: true}
	}
	need(isNumber(b.value))
	kind := kindOf(b.value)
	need(kind != aComplex && (s&floats != 0 || s.has(kind)))
	return b
}

// small reads an integer that is not beyond two others.
func small(x api.Form, least, most int) int {
	need(x.Kind == api.FormInt)
	n, err := strconv.Atoi(x.Text)
	need(err == nil && n >= least && n <= most)
	return n
}

// bytes reads UNSIGNED-BYTE, SIGNED-BYTE and MOD.
func bytes(name string, x api.Form) *spec {
	switch name {
	case "MOD":
		return integers(at(integerOf(0)), at(integerOf(small(x, 1, maxModulus)-1)))
	case "SIGNED-BYTE":
		p, last := power(small(x, 1, maxWidth) - 1)
		first, _ := number.Neg(p)
		return integers(at(first), at(last))
	}
	_, last := power(small(x, 1, maxWidth))
	return integers(at(integerOf(0)), at(last))
}

// sized reads the length of vectors of some kinds.
func sized(s kindSet, x api.Form, most int) *spec {
	if isStar(x) {
		return ofKinds(s)
	}
	return &spec{op: opSized, kinds: s, length: small(x, 0, most)}
}

// shaped reads the dimensions, or the number of them, of ARRAY.
func shaped(x api.Form) *spec {
	if isStar(x) {
		return ofKinds(vectors | setOf(anArray))
	}
	l, isList := forms.Items(x)
	if !isList {
		l = slices.Repeat([]api.Form{forms.Symbol(lisp, "*")}, small(x, 0, maxRank))
	}
	need(len(l) <= maxRank)
	if len(l) == 1 {
		return sized(vectors, l[0], maxDimension)
	}
	s := &spec{op: opShaped}
	for _, d := range l {
		n := anyDimension
		if !isStar(d) {
			n = small(d, 0, maxDimension)
		}
		s.dims = append(s.dims, n)
	}
	return s
}
