package types

import (
	"slices"

	"commonform/api"
	"commonform/forms"
	"commonform/number"
)

// Ops of specs: which objects are of a type.
const (
	opKinds   = iota // those of some kinds
	opKeyword        // symbols whose home is KEYWORD
	opMember         // some objects
	opRange          // numbers of some kinds between two bounds
	opSized          // vectors of some kinds with a length
	opShaped         // arrays, but vectors, with some dimensions
	opCons           // conses whose parts are of two types
	opAnd
	opOr
	opNot
)

// any dimension of an array
const anyDimension = -1

// A spec is a type specifier that was read.
type spec struct {
	op        int
	kinds     kindSet
	objects   []api.Form
	low, high bound
	length    int
	dims      []int
	parts     []*spec
	place     int // of a CONS among those that are decided with it
}

// A bound is a number below or above which no value lies; with isOpen it is none of the values. Without isSome there is none.
type bound struct {
	value          api.Form
	isSome, isOpen bool
}

// lets reports whether a number lies on the right side of a bound: above it for the side 1, below it for -1.
func (b bound) lets(x api.Form, side int) bool {
	if !b.isSome {
		return true
	}
	sign, _ := number.Cmp(x, b.value)
	return sign == side || sign == 0 && !b.isOpen
}

// has reports whether an object is of the type.
func (s *spec) has(x api.Form) bool {
	switch s.op {
	case opKinds:
		return s.kinds.has(kindOf(x))
	case opKeyword:
		return x.Kind == api.FormSymbol && x.Home == "KEYWORD"
	case opMember:
		return slices.ContainsFunc(s.objects, func(y api.Form) bool { return forms.Equal(x, y) })
	case opRange:
		return s.kinds.has(kindOf(x)) && s.low.lets(x, 1) && s.high.lets(x, -1)
	case opSized:
		return s.kinds.has(kindOf(x)) && lengthOf(x) == s.length
	case opShaped:
		return x.Kind == api.FormArray && s.fits(dimensionsOf(x))
	case opCons:
		return x.Kind == api.FormCons && s.parts[0].has(car(x)) && s.parts[1].has(cdr(x))
	}
	return s.combined(func(part *spec) bool { return part.has(x) })
}

// fits reports whether an array may have these dimensions.
func (s *spec) fits(dims []int) bool {
	return slices.EqualFunc(s.dims, dims, func(wanted, d int) bool { return wanted == anyDimension || wanted == d })
}

// combined reports what AND, OR and NOT make of what their parts report.
func (s *spec) combined(holds func(*spec) bool) bool {
	switch s.op {
	case opAnd:
		return !slices.ContainsFunc(s.parts, func(part *spec) bool { return !holds(part) })
	case opOr:
		return slices.ContainsFunc(s.parts, holds)
	}
	return !holds(s.parts[0])
}

func ofKinds(s kindSet) *spec {
	return &spec{op: opKinds, kinds: s}
}

func member(l ...api.Form) *spec {
	return &spec{op: opMember, objects: l}
}

func either(parts ...*spec) *spec {
	return &spec{op: opOr, parts: parts}
}

func none(part *spec) *spec {
	return &spec{op: opNot, parts: []*spec{part}}
}

// integers returns the type of the integers between two bounds.
func integers(low, high bound) *spec {
	return &spec{op: opRange, kinds: setOf(anInteger), low: low, high: high}
}

// at returns the bound that is one of the values.
func at(x api.Form) bound {
	return bound{value: x, isSome: true}
}

// power returns 2^n and 2^n - 1.
func power(n int) (api.Form, api.Form) {
	p, _ := number.Power(integerOf(2), n)
	q, _ := number.Sub(p, integerOf(1))
	return p, q
}

// fixnums returns the type of the integers from -2^60 to 2^60 - 1.
func fixnums() *spec {
	return integers(at(integerOf(-1<<60)), at(integerOf(1<<60-1)))
}

// kindNames returns the names of the types that have all objects of some kinds.
func kindNames() map[string]kindSet {
	return map[string]kindSet{
		"T": everything, "NIL": 0, "ATOM": everything &^ setOf(aCons), "CONS": setOf(aCons), "SYMBOL": setOf(aSymbol),
		"NUMBER": reals | setOf(aComplex), "REAL": reals, "RATIONAL": rationals, "INTEGER": setOf(anInteger), "RATIO": setOf(aRatio),
		"FLOAT": floats, "SINGLE-FLOAT": setOf(aSingle), "DOUBLE-FLOAT": setOf(aDouble), "COMPLEX": setOf(aComplex),
		"CHARACTER": setOf(aCharacter), "STRING": setOf(aString), "BIT-VECTOR": setOf(aBitVector), "SIMPLE-VECTOR": setOf(aVector),
		"VECTOR": vectors, "ARRAY": vectors | setOf(anArray), "FUNCTION": setOf(aFunction), "HASH-TABLE": setOf(aTable),
	}
}

// named returns the type with one of the other names, or nil.
func named(name string) *spec {
	switch name {
	case "NULL":
		return member(forms.Nil())
	case "LIST":
		return either(ofKinds(setOf(aCons)), member(forms.Nil()))
	case "SEQUENCE":
		return either(ofKinds(vectors|setOf(aCons)), member(forms.Nil()))
	case "BOOLEAN":
		return member(forms.Symbol(lisp, "T"), forms.Nil())
	case "KEYWORD":
		return &spec{op: opKeyword}
	case "BIT":
		return integers(at(integerOf(0)), at(integerOf(1)))
	case "UNSIGNED-BYTE":
		return integers(at(integerOf(0)), bound{})
	case "FIXNUM":
		return fixnums()
	case "BIGNUM":
		return &spec{op: opAnd, parts: []*spec{ofKinds(setOf(anInteger)), none(fixnums())}}
	}
	return nil
}
