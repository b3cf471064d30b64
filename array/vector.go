package array

import (
	"slices"

	"commonform/api"
)

// SetFill changes a fill pointer.
func (r *Room) SetFill(a, fill int) api.Errno {
	if e := r.check(a); e != api.OK {
		return e
	}
	x := &r.arrays[a]
	switch {
	case x.Fill == none:
		return ErrFill
	case fill < 0 || fill > x.Dims[0]:
		return api.ErrRange
	}
	x.Fill = fill
	return api.OK
}

// Push puts an element behind the fill pointer.
func (r *Room) Push(a int, x api.Form, extend int) (int, api.Errno) {
	if e := r.check(a); e != api.OK {
		return 0, e
	}
	v := r.arrays[a]
	if v.Fill == none {
		return 0, ErrFill
	}
	if e := checkElement(x, v.Bits); e != api.OK {
		return 0, e
	}
	if v.Fill == v.Dims[0] {
		if e := r.extend(a, extend, x); e != api.OK {
			return 0, e
		}
	}
	r.setElement(a, v.Fill, copied(x))
	r.arrays[a].Fill++
	return v.Fill, api.OK
}

// extend adjusts a full vector, so that it has more elements.
func (r *Room) extend(a, extend int, initial api.Form) api.Errno {
	v := r.arrays[a]
	switch {
	case !v.Adjustable || extend == 0:
		return api.ErrFull
	case extend < 0 || extend > maxDimension:
		return api.ErrRange
	}
	return r.Adjust(a, []int{v.Dims[0] + extend}, keep, initial)
}

// Pop takes the element ahead of the fill pointer.
func (r *Room) Pop(a int) (api.Form, api.Errno) {
	if e := r.check(a); e != api.OK {
		return api.Form{}, e
	}
	v := &r.arrays[a]
	if v.Fill == none || v.Fill == 0 {
		return api.Form{}, ErrFill
	}
	v.Fill--
	return copied(r.element(a, v.Fill)), api.OK
}

// Boole combines two bit arrays into a third one.
func (r *Room) Boole(op, a, b, into int) api.Errno {
	if e := r.check(a, b, into); e != api.OK {
		return e
	}
	if op < 0 || op > 15 {
		return api.ErrArg
	}
	x, y, z := r.arrays[a], r.arrays[b], r.arrays[into]
	switch {
	case !x.Bits || !y.Bits || !z.Bits:
		return ErrBits
	case !slices.Equal(x.Dims, y.Dims) || !slices.Equal(x.Dims, z.Dims):
		return ErrRank
	}
	combined := func(x, y api.Form) string {
		place := 0
		if x.Text == "1" {
			place += 2
		}
		if y.Text == "1" {
			place++
		}
		if op>>place&1 == 1 {
			return "1"
		}
		return "0"
	}
	for i := range total(z.Dims) {
		// One after the other: into may show elements of a and b that come later.
		text := combined(r.element(a, i), r.element(b, i))
		r.setElement(into, i, api.Form{Kind: api.FormInt, Text: text})
	}
	return api.OK
}
