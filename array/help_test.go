package array_test

import (
	"reflect"
	"strconv"
	"strings"
	"testing"

	"commonform/api"
	"commonform/array"
	"commonform/forms"
)

func num(n int) api.Form {
	return api.Form{Kind: api.FormInt, Text: strconv.Itoa(n)}
}

func nums(l ...int) []api.Form {
	var out []api.Form
	for _, n := range l {
		out = append(out, num(n))
	}
	return out
}

// own is an array with elements of its own, without a fill pointer.
func own(dims ...int) array.Array {
	return array.Array{Dims: dims, Fill: -1, Adjustable: true, Target: -1}
}

// change returns an array that is changed.
func change(a array.Array, do func(*array.Array)) array.Array {
	do(&a)
	return a
}

func bits(dims ...int) array.Array {
	return change(own(dims...), func(a *array.Array) { a.Bits = true })
}

func filled(fill, dim int) array.Array {
	return change(own(dim), func(a *array.Array) { a.Fill = fill })
}

func shown(target, offset int, dims ...int) array.Array {
	return change(own(dims...), func(a *array.Array) { a.Target, a.Offset = target, offset })
}

func mustMake(t *testing.T, r *array.Room, a array.Array, initial api.Form) int {
	t.Helper()
	n, e := r.Make(a, initial)
	if e != api.OK {
		t.Fatalf("Make(%v): %v", a, e)
	}
	return n
}

// count makes the integers from first on the elements of an array.
func count(t *testing.T, r *array.Room, a, first int) {
	t.Helper()
	n, _ := r.Total(a)
	for i := range n {
		is(t, "Set", r.Set(a, i, num(first+i)), api.OK)
	}
}

func is(t *testing.T, what string, got, want api.Errno) {
	t.Helper()
	if got != want {
		t.Errorf("%s: %v; expected %v", what, got, want)
	}
}

// texts returns the texts of the elements of an array.
func texts(t *testing.T, r *array.Room, a int) string {
	t.Helper()
	l, e := r.Contents(a)
	if e != api.OK {
		t.Fatalf("Contents(%d): %v", a, e)
	}
	var words []string
	for _, x := range l {
		words = append(words, x.Text)
	}
	return strings.Join(words, " ")
}

// dump returns all that can be seen of a room.
func dump(r *array.Room) []any {
	var all []any
	for a := 0; ; a++ {
		of, e := r.Of(a)
		if e != api.OK {
			return all
		}
		total, _ := r.Total(a)
		all = append(all, of)
		for i := range total {
			x, _ := r.Get(a, i)
			array, at, _ := r.Where(a, i)
			all = append(all, x, array, at)
		}
	}
}

func same(a, b any) bool {
	return reflect.DeepEqual(a, b)
}

// deep returns a list of a depth, of as many conses.
func deep(depth int) api.Form {
	f := forms.Nil()
	for range depth - 1 {
		f = forms.List([]api.Form{f})
	}
	return f
}

// wide returns a vector with so many nodes.
func wide(nodes int) api.Form {
	f := api.Form{Kind: api.FormVector}
	for range nodes - 1 {
		f.Kids = append(f.Kids, num(0))
	}
	return f
}

// wrong are no elements: a wrong text, a label, a reference, a kind that is none, and one that is too deep.
func wrong() []api.Form {
	labelled := api.Form{Kind: api.FormLabel, Text: "0", Kids: []api.Form{{Kind: api.FormString}}}
	return []api.Form{
		{}, {Kind: api.FormInt, Text: "01"}, {Kind: 99}, labelled, forms.List([]api.Form{labelled}),
		forms.List([]api.Form{labelled, {Kind: api.FormRef, Text: "0"}}), {Kind: api.FormRef, Text: "0"}, deep(101), wide(2001),
	}
}
