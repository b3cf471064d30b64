package format

import (
	"commonform/api"
	"commonform/printer"
)

// isRight reports whether layer 1 takes a form. The printer asks this ahead of all else; with the level 0, and without arrays and abbreviations, it then writes nothing of what stands in lists and arrays.
func isRight(f api.Form) bool {
	if isTooGreat(f) {
		return false
	}
	o := printer.Standard("COMMON-LISP-USER")
	o.Circle, o.Array, o.Abbrev, o.Level = true, false, false, 0
	if !hasElements(f) {
		_, e := printer.Print(o, api.Form{Kind: api.FormVector, Kids: []api.Form{f}})
		return e == api.OK
	}
	// ErrSize is that of Normal alone, whose form may be greater.
	_, e := printer.Print(o, f)
	return e == api.OK || e == api.ErrSize
}

// hasElements reports whether a form, or the one within its label, is a list or an array.
func hasElements(f api.Form) bool {
	if f.Kind == api.FormLabel && len(f.Kids) == 1 {
		f = f.Kids[0]
	}
	return f.Kind == api.FormCons || f.Kind == api.FormVector || f.Kind == api.FormArray
}

// isTooGreat reports whether a form has too many nodes, or is too deep.
func isTooGreat(f api.Form) bool {
	nodes := 0
	var look func(f api.Form, depth int) bool
	look = func(f api.Form, depth int) bool {
		nodes++
		if nodes > api.MaxForm || depth > api.MaxDepth {
			return true
		}
		for _, k := range f.Kids {
			if look(k, depth+1) {
				return true
			}
		}
		return false
	}
	return look(f, 1)
}

func isNil(x api.Form) bool {
	return x.Kind == api.FormSymbol && x.Text == "NIL" && x.Home == "COMMON-LISP"
}

// elements returns the elements of a proper list.
func elements(x api.Form) []api.Form {
	if isNil(x) {
		return nil
	}
	last := len(x.Kids) - 1
	if x.Kind != api.FormCons || !isNil(x.Kids[last]) {
		panic(api.ErrType)
	}
	return x.Kids[:last]
}

// printed returns the text of an argument.
func printed(x api.Form, escape bool) string {
	text, e := printer.Text(x, escape)
	if e != api.OK {
		panic(api.ErrForm)
	}
	return text
}
