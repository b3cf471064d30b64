package types

import (
	"strconv"
	"strings"
	"unicode/utf8"

	"commonform/api"
	"commonform/forms"
)

// The home of symbols that stand for what has no form.
const formless = "%"

const lisp = "COMMON-LISP"

// Kinds of objects: each object is of just one.
const (
	aCons = iota
	aSymbol
	anInteger
	aRatio
	aSingle
	aDouble
	aComplex
	aCharacter
	aString
	aBitVector
	aVector
	anArray // of another rank than 1
	aFunction
	aTable
	another // what else has no form
	kinds
)

// A kindSet has bits for kinds.
type kindSet uint32

func setOf(l ...int) kindSet {
	var s kindSet
	for _, kind := range l {
		s |= 1 << kind
	}
	return s
}

func (s kindSet) has(kind int) bool {
	return s>>kind&1 == 1
}

const (
	everything kindSet = 1<<kinds - 1
	rationals  kindSet = 1<<anInteger | 1<<aRatio
	floats     kindSet = 1<<aSingle | 1<<aDouble
	reals              = rationals | floats
	vectors    kindSet = 1<<aString | 1<<aBitVector | 1<<aVector
)

// kindOf returns the kind of an object.
func kindOf(x api.Form) int {
	switch x.Kind {
	case api.FormCons:
		return aCons
	case api.FormSymbol:
		return symbolKind(x)
	case api.FormInt:
		return anInteger
	case api.FormRatio:
		return aRatio
	case api.FormSingle:
		return aSingle
	case api.FormDouble:
		return aDouble
	case api.FormComplex:
		return aComplex
	case api.FormChar:
		return aCharacter
	case api.FormString:
		return aString
	case api.FormBits:
		return aBitVector
	case api.FormVector:
		return aVector
	}
	return anArray
}

func symbolKind(x api.Form) int {
	if x.Home != formless {
		return aSymbol
	}
	switch x.Text {
	case "BUILTIN", "CLOSURE":
		return aFunction
	case "TABLE":
		return aTable
	}
	return another
}

// car and cdr return the parts of a cons, which they share with it.
func car(x api.Form) api.Form {
	return x.Kids[0]
}

func cdr(x api.Form) api.Form {
	if len(x.Kids) == 2 {
		return x.Kids[1]
	}
	return api.Form{Kind: api.FormCons, Kids: x.Kids[1:]}
}

// lengthOf returns the number of elements of a string, a bit vector or a vector.
func lengthOf(x api.Form) int {
	switch x.Kind {
	case api.FormString:
		return utf8.RuneCountInString(x.Text)
	case api.FormBits:
		return len(x.Text)
	}
	return len(x.Kids)
}

// dimensionsOf returns the dimensions of a FormArray.
func dimensionsOf(x api.Form) []int {
	var dims []int
	for _, word := range strings.Fields(x.Text) {
		n, _ := strconv.Atoi(word)
		dims = append(dims, n)
	}
	return dims
}

// isMentionable reports whether an object may stand in MEMBER, if its number is not too long.
func isMentionable(x api.Form) bool {
	if x.Kind == api.FormSymbol {
		return x.Home != "" && x.Home != formless
	}
	return x.Kind == api.FormChar || forms.Number(x)
}

// copied returns a form in memory of its own.
func copied(f api.Form) api.Form {
	return forms.Dotted(nil, f)
}

func integerOf(n int) api.Form {
	return api.Form{Kind: api.FormInt, Text: strconv.Itoa(n)}
}
