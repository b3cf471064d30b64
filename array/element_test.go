package array_test

import (
	"math"
	"slices"
	"strings"
	"testing"

	"commonform/api"
	"commonform/array"
	"commonform/forms"
)

func TestSubscripts(t *testing.T) {
	for i, c := range []struct {
		dims  []int
		index int
		want  api.Errno
	}{
		{nil, 0, api.OK}, {nil, 1, api.ErrRange}, {nil, -1, api.ErrRange}, {[]int{0}, 0, api.ErrRange}, {[]int{2, 0, 2}, 0, api.ErrRange}, {[]int{3}, 3, api.ErrRange}, {[]int{3}, math.MinInt, api.ErrRange}, {[]int{2000}, 1999, api.OK},
		{[]int{1, 1, 1, 1, 1, 1, 1, 1}, -1, api.ErrSize}, {[]int{-1}, -1, api.ErrRange}, {[]int{2001}, 0, api.ErrRange}, {[]int{2000, 2}, -1, api.ErrLarge}, {[]int{2000, 2, 0}, -1, api.ErrRange},
	} {
		at, e := array.Subscripts(c.dims, c.index)
		if e != c.want || e != api.OK && at != nil || e == api.OK && len(at) != len(c.dims) {
			t.Errorf("%d: Subscripts = %v, %v; expected %v", i, at, e, c.want)
		}
	}
}

// P11.2: Index and Subscripts undo each other, and rise together, the last subscript fastest.
func TestIndices(t *testing.T) {
	for _, dims := range [][]int{nil, {1}, {5}, {2, 3}, {3, 2}, {1, 4, 2}, {2, 2, 2, 2, 2, 2, 2}, {5, 1, 1, 7}, {0}, {3, 0}} {
		r := array.NewRoom()
		a := mustMake(t, r, own(dims...), num(0))
		total, _ := r.Total(a)
		var last []int
		for i := range total {
			at, e := array.Subscripts(dims, i)
			index := 0
			for k, s := range at {
				index = index*dims[k] + s
			}
			back, d := r.Index(a, at)
			if e != api.OK || d != api.OK || back != i || index != i || i > 0 && slices.Compare(at, last) <= 0 {
				t.Errorf("%v: Subscripts of %d = %v, of which Index = %d", dims, i, at, back)
			}
			last = at
		}
		if _, e := array.Subscripts(dims, total); e != api.ErrRange {
			t.Errorf("%v: the index behind: %v", dims, e)
		}
	}
}

func TestIndex(t *testing.T) {
	r := array.NewRoom()
	a := mustMake(t, r, own(2, 3), num(0))
	none := mustMake(t, r, own(), num(0))
	v := mustMake(t, r, filled(1, 4), num(0))
	for i, c := range []struct {
		a     int
		at    []int
		index int
		want  api.Errno
	}{
		{a, []int{0, 0}, 0, api.OK}, {a, []int{1, 0}, 3, api.OK}, {a, []int{1}, 0, array.ErrRank}, {a, []int{9, 9, 9}, 0, array.ErrRank}, {a, nil, 0, array.ErrRank}, {a, []int{2, 0}, 0, api.ErrRange}, {a, []int{0, 3}, 0, api.ErrRange}, {a, []int{0, -1}, 0, api.ErrRange}, {a, []int{math.MaxInt, 0}, 0, api.ErrRange},
		{none, nil, 0, api.OK}, {none, []int{0}, 0, array.ErrRank}, {v, []int{3}, 3, api.OK}, {v, []int{4}, 0, api.ErrRange},
	} {
		if index, e := r.Index(c.a, c.at); index != c.index || e != c.want {
			t.Errorf("%d: Index = %d, %v", i, index, e)
		}
	}
	for i, c := range []struct {
		a, total, length int
		want             api.Errno
	}{{a, 6, 0, array.ErrRank}, {none, 1, 0, array.ErrRank}, {v, 4, 1, api.OK}, {mustMake(t, r, own(5), num(0)), 5, 5, api.OK}, {mustMake(t, r, own(0), num(0)), 0, 0, api.OK}, {mustMake(t, r, own(5, 0), num(0)), 0, 0, array.ErrRank}} {
		total, e := r.Total(c.a)
		length, d := r.Length(c.a)
		if total != c.total || e != api.OK || length != c.length || d != c.want {
			t.Errorf("%d: Total = %d, Length = %d, %v", i, total, length, d)
		}
	}
}

func TestGetAndSet(t *testing.T) {
	r := array.NewRoom()
	v := mustMake(t, r, filled(1, 4), num(0))
	b := mustMake(t, r, bits(2, 2), num(0))
	for i, c := range []struct {
		a, index int
		x        api.Form
		want     api.Errno
	}{
		{v, 0, num(1), api.OK}, {v, 3, num(2), api.OK}, {v, 4, num(1), api.ErrRange}, {v, -1, api.Form{}, api.ErrRange}, {v, 0, api.Form{}, api.ErrForm}, {b, 3, num(1), api.OK}, {b, 4, num(7), api.ErrRange}, {b, 0, num(7), array.ErrBits}, {b, 0, api.Form{Kind: api.FormString, Text: "1"}, array.ErrBits}, {b, 0, api.Form{Kind: 44}, api.ErrForm},
	} {
		before := dump(r)
		e := r.Set(c.a, c.index, c.x)
		got, d := r.Get(c.a, c.index)
		switch {
		case e != c.want:
			t.Errorf("%d: Set: %v", i, e)
		case e == api.OK && (d != api.OK || !forms.Equal(got, c.x)):
			t.Errorf("%d: Get = %v, %v", i, got, d)
		case e != api.OK && !same(dump(r), before):
			t.Errorf("%d: an error changed the room", i)
		}
		array, at, f := r.Where(c.a, c.index)
		if (f == api.ErrRange) != (c.want == api.ErrRange) || f == api.OK && (array != c.a || at != c.index) || f != api.OK && (array != 0 || at != 0 || d != f) {
			t.Errorf("%d: Where = %d, %d, %v", i, array, at, f)
		}
	}
	for i, x := range wrong() {
		if e := r.Set(v, 0, x); e != api.ErrForm {
			t.Errorf("Set of the wrong form %d: %v", i, e)
		}
	}
}

func TestForm(t *testing.T) {
	x := forms.Symbol("P", "X")
	for i, c := range []struct {
		a       array.Array
		initial api.Form
		want    api.Form
	}{
		{own(2), x, api.Form{Kind: api.FormVector, Kids: []api.Form{x, x}}}, {own(0), x, api.Form{Kind: api.FormVector}}, {filled(1, 3), x, api.Form{Kind: api.FormVector, Kids: []api.Form{x}}}, {filled(0, 2000), wide(2000), api.Form{Kind: api.FormVector}},
		{bits(3), num(1), api.Form{Kind: api.FormBits, Text: "111"}}, {bits(0), num(1), api.Form{Kind: api.FormBits}}, {bits(2000), num(0), api.Form{Kind: api.FormBits, Text: strings.Repeat("0", 2000)}}, {change(bits(5), func(a *array.Array) { a.Fill = 2 }), num(1), api.Form{Kind: api.FormBits, Text: "11"}},
		{own(), x, api.Form{Kind: api.FormArray, Kids: []api.Form{x}}}, {bits(), num(1), api.Form{Kind: api.FormArray, Kids: nums(1)}}, {bits(1, 2), num(1), api.Form{Kind: api.FormArray, Text: "1 2", Kids: nums(1, 1)}}, {own(2, 0, 2000), x, api.Form{Kind: api.FormArray, Text: "2 0 2000"}},
		{own(1999), num(0), wide(2000)}, {own(1), deep(99), api.Form{Kind: api.FormVector, Kids: []api.Form{deep(99)}}},
	} {
		r := array.NewRoom()
		a := mustMake(t, r, c.a, c.initial)
		f, e := r.Form(a)
		if e != api.OK || !forms.Equal(f, c.want) || forms.Check(f) != api.OK {
			t.Errorf("%d: Form = %v, %v", i, f, e)
		}
	}
	for i, c := range []struct {
		a       array.Array
		initial api.Form
	}{{own(2000), num(0)}, {own(40, 50), num(0)}, {own(1), wide(2000)}, {own(1), deep(100)}, {own(), deep(100)}, {own(2), wide(1000)}} {
		r := array.NewRoom()
		a := mustMake(t, r, c.a, c.initial)
		if f, e := r.Form(a); e != api.ErrSize || f.Kind != 0 {
			t.Errorf("%d: Form of what is too great: %v", i, e)
		}
		l, e := r.Contents(a)
		total, _ := r.Total(a)
		if e != api.OK || len(l) != total {
			t.Errorf("%d: Contents of what is too great: %v", i, e)
		}
	}
}
