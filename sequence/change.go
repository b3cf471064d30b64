package sequence

import (
	"slices"

	"commonform/api"
)

// chosen returns by index which elements of a sequence are taken, as many as Count lets it.
func chosen(x api.Form, l []api.Form, o Options) ([]bool, api.Errno) {
	v, e := look(l, o)
	if e != api.OK {
		return nil, e
	}
	is := make([]bool, len(l))
	n := 0
	for i := range v.taken(x) {
		if n == o.Count {
			break
		}
		is[i] = true
		n++
	}
	return is, api.OK
}

// without returns the elements that are not marked.
func without(l []api.Form, is []bool) []api.Form {
	var left []api.Form
	for i, x := range l {
		if !is[i] {
			left = append(left, copied(x))
		}
	}
	return left
}

// Remove returns the elements that are not like x.
func Remove(x api.Form, l []api.Form, o Options) ([]api.Form, api.Errno) {
	is, e := chosen(x, l, o)
	if e != api.OK {
		return nil, e
	}
	return without(l, is), api.OK
}

// Substitute returns the elements with another one for those that are like x.
func Substitute(other, x api.Form, l []api.Form, o Options) ([]api.Form, api.Errno) {
	is, e := chosen(x, l, o)
	if e != api.OK {
		return nil, e
	}
	var changed []api.Form
	for i, x := range l {
		if is[i] {
			x = other
		}
		changed = append(changed, copied(x))
	}
	return changed, api.OK
}

// Distinct returns the elements without those that are like others.
func Distinct(l []api.Form, o Options) ([]api.Form, api.Errno) {
	v, e := look(l, o)
	if e != api.OK {
		return nil, e
	}
	is := make([]bool, len(l))
	met := map[string]bool{} // the marks of those that an element is held against
	for i := range indices(v.start, v.end, !o.FromEnd) {
		mark := v.mark(i)
		is[i] = met[mark]
		if o.Not {
			is[i] = len(met) > 1 || len(met) == 1 && !met[mark]
		}
		met[mark] = true
	}
	return without(l, is), api.OK
}

// Subsequence returns some elements.
func Subsequence(l []api.Form, start, end int) ([]api.Form, api.Errno) {
	if e := checkSize(l); e != api.OK {
		return nil, e
	}
	if e := checkBounds(start, end, len(l)); e != api.OK {
		return nil, e
	}
	return copiedAll(l[start:endOf(end, len(l))]), api.OK
}

// Replace returns the elements with some replaced by those of another sequence.
func Replace(l, m []api.Form, start, end, from, to int) ([]api.Form, api.Errno) {
	if e := checkSize(l, m); e != api.OK {
		return nil, e
	}
	if e := checkBounds(start, end, len(l)); e != api.OK {
		return nil, e
	}
	if e := checkBounds(from, to, len(m)); e != api.OK {
		return nil, e
	}
	changed := slices.Clone(l)
	copy(changed[start:endOf(end, len(l))], m[from:endOf(to, len(m))])
	return copiedAll(changed), api.OK
}

// Fill returns the elements with some replaced by x.
func Fill(l []api.Form, x api.Form, start, end int) ([]api.Form, api.Errno) {
	if e := checkSize(l); e != api.OK {
		return nil, e
	}
	if e := checkBounds(start, end, len(l)); e != api.OK {
		return nil, e
	}
	changed := slices.Clone(l)
	for i := range indices(start, endOf(end, len(l)), false) {
		changed[i] = x
	}
	return copiedAll(changed), api.OK
}

// Reverse returns the elements in the opposite order.
func Reverse(l []api.Form) ([]api.Form, api.Errno) {
	if e := checkSize(l); e != api.OK {
		return nil, e
	}
	turned := copiedAll(l)
	slices.Reverse(turned)
	return turned, api.OK
}
