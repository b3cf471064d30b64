package sequence

import (
	"iter"

	"commonform/api"
)

// A view is what of a sequence is looked at.
type view struct {
	o          Options
	start, end int
	marks      []string // of the keys of the elements from start to end - 1
}

// marksOf returns the marks of the keys of elements.
func marksOf(test, key int, l []api.Form) ([]string, api.Errno) {
	taken, e := takenAll(key, l)
	if e != api.OK {
		return nil, e
	}
	mark := markOf(test)
	var marks []string
	for _, f := range taken {
		marks = append(marks, mark(f))
	}
	return marks, api.OK
}

// look returns the view of a sequence, and the error of it and of the options.
func look(l []api.Form, o Options) (view, api.Errno) {
	if e := checkSize(l); e != api.OK {
		return view{}, e
	}
	if e := o.check(len(l)); e != api.OK {
		return view{}, e
	}
	start, end := o.Start, endOf(o.End, len(l))
	marks, e := marksOf(o.Test, o.Key, l[start:end])
	if e != api.OK {
		return view{}, e
	}
	return view{o, start, end, marks}, api.OK
}

// mark returns the mark of the key of an element that is looked at.
func (v view) mark(index int) string {
	return v.marks[index-v.start]
}

// taken yields the indices of the elements that are taken.
func (v view) taken(x api.Form) iter.Seq[int] {
	wanted := markOf(v.o.Test)(x)
	return func(yield func(int) bool) {
		for i := range indices(v.start, v.end, v.o.FromEnd) {
			if (v.mark(i) == wanted) != v.o.Not && !yield(i) {
				return
			}
		}
	}
}

// Find returns the element that is like x.
func Find(x api.Form, l []api.Form, o Options) (api.Form, api.Errno) {
	at, e := Position(x, l, o)
	switch {
	case e != api.OK:
		return api.Form{}, e
	case at < 0:
		return api.Form{}, api.ErrNone
	}
	return copied(l[at]), api.OK
}

// Position returns the index of the element that is like x, or -1.
func Position(x api.Form, l []api.Form, o Options) (int, api.Errno) {
	v, e := look(l, o)
	if e != api.OK {
		return 0, e
	}
	for i := range v.taken(x) {
		return i, api.OK
	}
	return -1, api.OK
}

// Count returns how many elements are like x.
func Count(x api.Form, l []api.Form, o Options) (int, api.Errno) {
	v, e := look(l, o)
	if e != api.OK {
		return 0, e
	}
	n := 0
	for range v.taken(x) {
		n++
	}
	return n, api.OK
}

// numbered returns numbers in the place of marks, the same ones for the same marks, of a list for each list.
func numbered(lists ...[]string) [][]int {
	numbers := map[string]int{}
	var all [][]int
	for _, marks := range lists {
		var l []int
		for _, mark := range marks {
			n, is := numbers[mark]
			if !is {
				n = len(numbers)
				numbers[mark] = n
			}
			l = append(l, n)
		}
		all = append(all, l)
	}
	return all
}

// Search returns where a sequence stands in another one, or -1.
func Search(part, l []api.Form, o Options) (int, api.Errno) {
	if e := checkSize(part, l); e != api.OK {
		return 0, e
	}
	if e := o.check(len(l)); e != api.OK {
		return 0, e
	}
	wanted, e := marksOf(o.Test, o.Key, part)
	if e != api.OK {
		return 0, e
	}
	v, e := look(l, o)
	if e != api.OK {
		return 0, e
	}
	both := numbered(wanted, v.marks)
search:
	for i := range indices(0, len(v.marks)-len(part)+1, o.FromEnd) {
		for k, n := range both[0] {
			if both[1][i+k] != n {
				continue search
			}
		}
		return v.start + i, api.OK
	}
	return -1, api.OK
}

// Mismatch returns where two sequences begin to differ, or -1.
func Mismatch(a, b []api.Form, o Options) (int, api.Errno) {
	if e := checkSize(a, b); e != api.OK {
		return 0, e
	}
	if e := o.checkConstants(); e != api.OK {
		return 0, e
	}
	x, e := marksOf(o.Test, o.Key, a)
	if e != api.OK {
		return 0, e
	}
	y, e := marksOf(o.Test, o.Key, b)
	if e != api.OK {
		return 0, e
	}
	for i := range max(len(x), len(y)) {
		if i >= len(x) || i >= len(y) || x[i] != y[i] {
			return i, api.OK
		}
	}
	return -1, api.OK
}
