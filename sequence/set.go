package sequence

import (
	"slices"

	"commonform/api"
)

// A set has elements, and the marks of their keys.
type set struct {
	elements []api.Form
	marks    []string
}

// setsOf returns two sets, and the first error that all functions of sets have.
func setsOf(a, b []api.Form, test, key int) (x, y set, e api.Errno) {
	if e := checkSize(a, b); e != api.OK {
		return set{}, set{}, e
	}
	if !isOne(test, tests) || !isOne(key, keys) {
		return set{}, set{}, api.ErrArg
	}
	left, e := marksOf(test, key, a)
	if e != api.OK {
		return set{}, set{}, e
	}
	right, e := marksOf(test, key, b)
	if e != api.OK {
		return set{}, set{}, e
	}
	return set{a, left}, set{b, right}, api.OK
}

// chosen returns the elements for which holds whether another set has one that is like it.
func (x set) chosen(other set, holds bool) []api.Form {
	met := map[string]bool{}
	for _, mark := range other.marks {
		met[mark] = true
	}
	var l []api.Form
	for i, mark := range x.marks {
		if met[mark] == holds {
			l = append(l, copied(x.elements[i]))
		}
	}
	return l
}

// Union returns the elements of two sets.
func Union(a, b []api.Form, test, key int) ([]api.Form, api.Errno) {
	x, y, e := setsOf(a, b, test, key)
	if e != api.OK {
		return nil, e
	}
	l := slices.Concat(copiedAll(a), y.chosen(x, false))
	if len(l) > api.MaxForm {
		return nil, api.ErrSize
	}
	return l, api.OK
}

// Intersection returns the elements of a set that another one has, too.
func Intersection(a, b []api.Form, test, key int) ([]api.Form, api.Errno) {
	x, y, e := setsOf(a, b, test, key)
	if e != api.OK {
		return nil, e
	}
	return x.chosen(y, true), api.OK
}

// Difference returns the elements of a set that another one does not have.
func Difference(a, b []api.Form, test, key int) ([]api.Form, api.Errno) {
	x, y, e := setsOf(a, b, test, key)
	if e != api.OK {
		return nil, e
	}
	return x.chosen(y, false), api.OK
}

// Subset reports whether a set has all elements of another one.
func Subset(a, b []api.Form, test, key int) (bool, api.Errno) {
	left, e := Difference(a, b, test, key)
	if e != api.OK {
		return false, e
	}
	return len(left) == 0, api.OK
}
