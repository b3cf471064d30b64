package array

import (
	"iter"
	"strconv"
	"strings"

	"commonform/api"
	"commonform/forms"
)

// checkDims returns the error of dimensions.
func checkDims(dims []int) api.Errno {
	if len(dims) > forms.MaxRank {
		return api.ErrSize
	}
	for _, d := range dims {
		if d < 0 || d > maxDimension {
			return api.ErrRange
		}
	}
	if total(dims) > maxTotal {
		return api.ErrLarge
	}
	return api.OK
}

// total returns the product of dimensions that are not below 0; a number above maxTotal stands for any greater one.
func total(dims []int) int {
	n := 1
	for _, d := range dims {
		if d == 0 {
			return 0
		}
		n = min(n*d, maxTotal+1)
	}
	return n
}

// rowMajor returns the index of subscripts.
func rowMajor(at, dims []int) int {
	index := 0
	for i, d := range dims {
		index = index*d + at[i]
	}
	return index
}

// areWithin reports whether subscripts, as many as dimensions, are those of an element.
func areWithin(at, dims []int) bool {
	for i, d := range dims {
		if at[i] < 0 || at[i] >= d {
			return false
		}
	}
	return true
}

// everySubscripts yields the subscripts of all elements in row-major order. They are changed from one to the next one.
func everySubscripts(dims []int) iter.Seq[[]int] {
	return func(yield func([]int) bool) {
		at := make([]int, len(dims))
		for range total(dims) {
			if !yield(at) {
				return
			}
			for i := len(dims) - 1; i >= 0; i-- {
				at[i]++
				if at[i] < dims[i] {
					break
				}
				at[i] = 0
			}
		}
	}
}

// Subscripts returns the subscripts of a row-major index.
func Subscripts(dims []int, index int) ([]int, api.Errno) {
	if e := checkDims(dims); e != api.OK {
		return nil, e
	}
	if index < 0 || index >= total(dims) {
		return nil, api.ErrRange
	}
	at := make([]int, len(dims))
	for i := len(dims) - 1; i >= 0; i-- {
		at[i] = index % dims[i]
		index /= dims[i]
	}
	return at, api.OK
}

// Index returns the row-major index of some subscripts.
func (r *Room) Index(a int, at []int) (int, api.Errno) {
	if e := r.check(a); e != api.OK {
		return 0, e
	}
	dims := r.arrays[a].Dims
	switch {
	case len(at) != len(dims):
		return 0, ErrRank
	case !areWithin(at, dims):
		return 0, api.ErrRange
	}
	return rowMajor(at, dims), api.OK
}

// Total returns how many elements an array has.
func (r *Room) Total(a int) (int, api.Errno) {
	if e := r.check(a); e != api.OK {
		return 0, e
	}
	return total(r.arrays[a].Dims), api.OK
}

// Length returns the length of a vector, up to its fill pointer.
func (r *Room) Length(a int) (int, api.Errno) {
	if e := r.check(a); e != api.OK {
		return 0, e
	}
	x := r.arrays[a]
	if len(x.Dims) != 1 {
		return 0, ErrRank
	}
	return x.length(), api.OK
}

// length returns how many elements count: all, or those ahead of the fill pointer.
func (x stored) length() int {
	if x.Fill != none {
		return x.Fill
	}
	return total(x.Dims)
}

// owner returns which array has an element as its own, and its index there.
func (r *Room) owner(a, index int) (array, at int) {
	x := r.arrays[a]
	if x.Target == none {
		return a, index
	}
	return r.owner(x.Target, x.Offset+index)
}

// element returns an element as the room has it.
func (r *Room) element(a, index int) api.Form {
	array, at := r.owner(a, index)
	return r.arrays[array].elements[at]
}

func (r *Room) setElement(a, index int, x api.Form) {
	array, at := r.owner(a, index)
	r.arrays[array].elements[at] = x
}

// checkIndex returns the error of an array and the index of an element.
func (r *Room) checkIndex(a, index int) api.Errno {
	if e := r.check(a); e != api.OK {
		return e
	}
	if index < 0 || index >= total(r.arrays[a].Dims) {
		return api.ErrRange
	}
	return api.OK
}

// Where returns in which array, and at which index, an element lies.
func (r *Room) Where(a, index int) (array, at int, e api.Errno) {
	if e := r.checkIndex(a, index); e != api.OK {
		return 0, 0, e
	}
	array, at = r.owner(a, index)
	return array, at, api.OK
}

// Get returns an element by its row-major index.
func (r *Room) Get(a, index int) (api.Form, api.Errno) {
	if e := r.checkIndex(a, index); e != api.OK {
		return api.Form{}, e
	}
	return copied(r.element(a, index)), api.OK
}

// Set changes an element by its row-major index.
func (r *Room) Set(a, index int, x api.Form) api.Errno {
	if e := r.checkIndex(a, index); e != api.OK {
		return e
	}
	if e := checkElement(x, r.arrays[a].Bits); e != api.OK {
		return e
	}
	r.setElement(a, index, copied(x))
	return api.OK
}

// contents returns the elements that count as the room has them.
func (r *Room) contents(a int) []api.Form {
	var l []api.Form
	for i := range r.arrays[a].length() {
		l = append(l, r.element(a, i))
	}
	return l
}

// Contents returns all elements in row-major order.
func (r *Room) Contents(a int) ([]api.Form, api.Errno) {
	if e := r.check(a); e != api.OK {
		return nil, e
	}
	return copiedAll(r.contents(a)), api.OK
}

// Form returns the form of an array.
func (r *Room) Form(a int) (api.Form, api.Errno) {
	if e := r.check(a); e != api.OK {
		return api.Form{}, e
	}
	f := formOf(r.arrays[a].Array, r.contents(a))
	if forms.Check(f) != api.OK {
		return api.Form{}, api.ErrSize
	}
	return copied(f), api.OK
}

// formOf returns the form of an array with some elements.
func formOf(x Array, elements []api.Form) api.Form {
	var words []string
	if len(x.Dims) == 1 {
		if !x.Bits {
			return api.Form{Kind: api.FormVector, Kids: elements}
		}
		for _, bit := range elements {
			words = append(words, bit.Text)
		}
		return api.Form{Kind: api.FormBits, Text: strings.Join(words, "")}
	}
	for _, d := range x.Dims {
		words = append(words, strconv.Itoa(d))
	}
	return api.Form{Kind: api.FormArray, Text: strings.Join(words, " "), Kids: elements}
}
