package array_test

import (
	"math"
	"slices"
	"testing"

	"commonform/api"
	"commonform/array"
	"commonform/forms"
)

func TestExamples(t *testing.T) {
	r := array.NewRoom()
	a := mustMake(t, r, own(2, 3), num(0))
	count(t, r, a, 0)
	if n, e := r.Total(a); n != 6 || e != api.OK {
		t.Errorf("Total = %d, %v", n, e)
	}
	if n, e := r.Index(a, []int{1, 2}); n != 5 || e != api.OK {
		t.Errorf("Index = %d, %v", n, e)
	}
	b := mustMake(t, r, filled(0, 4), forms.Nil())
	for i, x := range []string{"A", "B"} {
		if n, e := r.Push(b, forms.Symbol("P", x), 0); n != i || e != api.OK {
			t.Errorf("Push = %d, %v", n, e)
		}
	}
	if got := texts(t, r, b); got != "A B" {
		t.Errorf("Contents = %s", got)
	}
	c := mustMake(t, r, shown(a, 2, 3), api.Form{})
	if got := texts(t, r, c); got != "2 3 4" {
		t.Errorf("what is shown: %s", got)
	}
	is(t, "Set", r.Set(c, 0, num(7)), api.OK)
	at, e := array.Subscripts([]int{2, 3}, 2)
	if got := texts(t, r, a); got != "0 1 7 3 4 5" || e != api.OK || !slices.Equal(at, []int{0, 2}) {
		t.Errorf("Contents = %s, Subscripts = %v", got, at)
	}
	is(t, "Adjust", r.Adjust(a, []int{3, 2}, -2, num(9)), api.OK)
	if got := texts(t, r, a); got != "0 1 3 4 9 9" {
		t.Errorf("behind Adjust: %s", got)
	}
}

func TestMake(t *testing.T) {
	big := math.MaxInt
	x := forms.Symbol("P", "X")
	for i, c := range []struct {
		a       array.Array
		initial api.Form
		want    api.Errno
	}{
		{own(), x, api.OK}, {own(0), x, api.OK}, {own(2000), x, api.OK}, {own(1, 1, 1, 1, 1, 1, 1), x, api.OK}, {own(2000, 2000, 0), x, api.OK}, {own(4, 500), x, api.OK}, {filled(0, 0), x, api.OK}, {filled(3, 3), x, api.OK},
		{own(1, 1, 1, 1, 1, 1, 1, 1), x, api.ErrSize}, {own(1, 1, 1, 1, 1, 1, 1, -1), x, api.ErrSize}, {own(2001), x, api.ErrRange}, {own(-1), x, api.ErrRange}, {own(2000, 2000, -1), x, api.ErrRange}, {own(big, big), x, api.ErrRange}, {own(3, 667), x, api.ErrLarge}, {own(2000, 2000, 2000, 2000, 2000, 2000, 2000), x, api.ErrLarge}, {own(2000, 2000, 2000, 2000, 2000, 2000, 0), x, api.OK},
		{change(own(), func(a *array.Array) { a.Fill = 0 }), x, array.ErrRank}, {change(own(1, 1), func(a *array.Array) { a.Fill = 9 }), x, array.ErrRank}, {change(own(1, 1), func(a *array.Array) { a.Fill = -5 }), x, array.ErrRank}, {change(own(3, 667), func(a *array.Array) { a.Fill = 0 }), x, api.ErrLarge},
		{filled(4, 3), x, api.ErrRange}, {filled(-2, 3), x, api.ErrRange}, {filled(big, 3), x, api.ErrRange}, {change(filled(4, 3), func(a *array.Array) { a.Target = -2 }), x, api.ErrRange},
		{shown(-2, 0, 3), x, api.ErrArg}, {shown(-1, 1, 3), x, api.ErrArg}, {shown(-1, -1, 3), api.Form{}, api.ErrArg}, {shown(-2, 5, 3), api.Form{}, api.ErrArg},
		{shown(99, 0, 3), x, api.ErrNone}, {shown(big, -1, 3), x, api.ErrNone}, {change(shown(99, 0, 3), func(a *array.Array) { a.Bits = true }), x, api.ErrNone},
		{change(shown(2, 0, 3), func(a *array.Array) { a.Bits = true }), x, array.ErrBits}, {change(shown(2, -1, 3), func(a *array.Array) { a.Bits = true }), x, array.ErrBits},
		{shown(2, -1, 3), x, api.ErrRange}, {shown(2, 1998, 3), x, api.ErrRange}, {shown(2, big, 3), x, api.ErrRange}, {shown(2, 2001, 0), x, api.ErrRange}, {shown(2, 2000, 0), x, api.OK}, {shown(2, 1997, 3), x, api.OK}, {shown(2, 1997, 3), api.Form{}, api.OK}, {shown(0, 0), x, api.OK}, {shown(0, 0, 1, 1), x, api.OK}, {shown(0, 1, 0, 5), x, api.OK},
		{bits(3), num(0), api.OK}, {bits(3), num(1), api.OK}, {bits(0), num(1), api.OK}, {bits(3), num(2), array.ErrBits}, {bits(0), num(-1), array.ErrBits}, {bits(3), x, array.ErrBits}, {bits(3), api.Form{}, api.ErrForm}, {own(0), api.Form{}, api.ErrForm}, {bits(3), api.Form{Kind: api.FormInt, Text: "1", Home: "P"}, api.ErrForm},
		{own(), deep(100), api.OK}, {own(), wide(2000), api.OK},
	} {
		r := array.NewRoom()
		for _, a := range []array.Array{own(), own(7), own(2000)} {
			mustMake(t, r, a, x)
		}
		before := dump(r)
		n, e := r.Make(c.a, c.initial)
		if e != c.want || e == api.OK && n != 3 || e != api.OK && (n != 0 || !same(dump(r), before)) {
			t.Errorf("%d: Make(%v, %v) = %d, %v; expected %v", i, c.a, c.initial.Kind, n, e, c.want)
		}
		if of, _ := r.Of(3); e == api.OK && (!slices.Equal(of.Dims, c.a.Dims) || of.Target != c.a.Target || of.Fill != c.a.Fill || of.Offset != c.a.Offset || of.Bits != c.a.Bits || !of.Adjustable) {
			t.Errorf("%d: Of = %v", i, of)
		}
	}
	for i, x := range wrong() {
		if _, e := array.NewRoom().Make(own(2), x); e != api.ErrForm {
			t.Errorf("Make with the wrong form %d: %v", i, e)
		}
	}
}

func TestFull(t *testing.T) {
	r := array.NewRoom()
	for i := range 100 {
		if n := mustMake(t, r, own(1), num(i)); n != i {
			t.Fatalf("the array %d has the number %d", i, n)
		}
	}
	for _, c := range []struct {
		a       array.Array
		initial api.Form
		want    api.Errno
	}{{own(1), num(0), api.ErrFull}, {own(1), api.Form{}, api.ErrForm}, {shown(99, 0, 1), api.Form{}, api.ErrFull}, {shown(99, 1, 1), api.Form{}, api.ErrRange}} {
		if n, e := r.Make(c.a, c.initial); n != 0 || e != c.want {
			t.Errorf("Make of one more = %d, %v; expected %v", n, e, c.want)
		}
	}
}

func TestNoRoomAndNoArray(t *testing.T) {
	var none *array.Room
	r := array.NewRoom()
	a := mustMake(t, r, bits(2), num(0))
	for _, c := range []struct {
		r    *array.Room
		a    int
		want api.Errno
	}{{none, 0, api.ErrArg}, {none, -1, api.ErrArg}, {r, 1, api.ErrNone}, {r, -1, api.ErrNone}, {r, math.MinInt, api.ErrNone}, {array.NewRoom(), 0, api.ErrNone}} {
		of, e := c.r.Of(c.a)
		total, e1 := c.r.Total(c.a)
		length, e2 := c.r.Length(c.a)
		index, e3 := c.r.Index(c.a, []int{9})
		b, at, e4 := c.r.Where(c.a, -1)
		x, e5 := c.r.Get(c.a, 0)
		n, e6 := c.r.Push(c.a, api.Form{}, 0)
		y, e7 := c.r.Pop(c.a)
		l, e8 := c.r.Contents(c.a)
		f, e9 := c.r.Form(c.a)
		for i, e := range []api.Errno{e, e1, e2, e3, e4, e5, e6, e7, e8, e9, c.r.Set(c.a, -1, api.Form{}), c.r.SetFill(c.a, -1), c.r.Adjust(c.a, []int{-1}, -5, api.Form{}), c.r.Displace(c.a, []int{-1}, 9, 9), c.r.Boole(99, c.a, a, a), c.r.Boole(99, a, c.a, a), c.r.Boole(99, a, a, c.a)} {
			if e != c.want {
				t.Errorf("%d: %v; expected %v", i, e, c.want)
			}
		}
		if !same(of, array.Array{}) || total+length+index+b+at+n != 0 || !same([]api.Form{x, y, f}, make([]api.Form, 3)) || len(l) > 0 {
			t.Error("a result with an error is no zero value")
		}
	}
	if n, e := none.Make(array.Array{Dims: []int{-1}}, api.Form{}); n != 0 || e != api.ErrArg {
		t.Errorf("Make in no room = %d, %v", n, e)
	}
}

func TestAdjust(t *testing.T) {
	fixed := change(own(3), func(a *array.Array) { a.Adjustable = false })
	for i, c := range []struct {
		a       array.Array
		dims    []int
		fill    int
		initial api.Form
		want    api.Errno
	}{
		{fixed, []int{-1}, 9, api.Form{}, api.ErrArg}, {fixed, []int{3}, -2, num(0), api.ErrArg},
		{own(3), []int{1, 1, 1, 1, 1, 1, 1, 1}, 9, api.Form{}, api.ErrSize}, {own(3), []int{2001, 1}, 9, api.Form{}, api.ErrRange}, {own(3), []int{2000, 2000}, 9, api.Form{}, api.ErrLarge}, {own(3), []int{1, 1}, 9, api.Form{}, array.ErrRank}, {own(3), nil, 9, api.Form{}, array.ErrRank}, {own(), []int{1}, -2, num(0), array.ErrRank},
		{own(3), []int{2}, 0, api.Form{}, array.ErrFill}, {own(3), []int{2}, -3, api.Form{}, array.ErrFill}, {own(3), []int{2}, 9, api.Form{}, array.ErrFill}, {own(1, 1), []int{2, 2}, 0, num(0), array.ErrFill}, {filled(1, 3), []int{2}, -1, api.Form{}, array.ErrFill}, {own(3), []int{2}, -1, num(0), api.OK}, {own(1, 1), []int{2, 2}, -1, num(0), api.OK},
		{filled(1, 3), []int{2}, -3, api.Form{}, api.ErrRange}, {filled(1, 3), []int{2}, math.MinInt, api.Form{}, api.ErrRange}, {filled(1, 3), []int{2}, 3, api.Form{}, api.ErrRange}, {filled(3, 3), []int{2}, -2, api.Form{}, api.ErrRange}, {filled(3, 3), []int{2}, 2, num(0), api.OK}, {filled(3, 3), []int{0}, 0, num(0), api.OK},
		{own(3), []int{3}, -2, api.Form{}, api.ErrForm}, {own(3), []int{3}, -2, deep(101), api.ErrForm}, {bits(3), []int{3}, -2, num(2), array.ErrBits}, {bits(3), []int{0}, -1, forms.Nil(), array.ErrBits}, {bits(3), []int{4}, -2, num(1), api.OK}, {own(), nil, -2, num(0), api.OK},
	} {
		r := array.NewRoom()
		a := mustMake(t, r, c.a, num(1))
		before := dump(r)
		is(t, "Adjust", r.Adjust(a, c.dims, c.fill, c.initial), c.want)
		if c.want != api.OK && !same(dump(r), before) {
			t.Errorf("%d: an error changed the room", i)
		}
	}
}

// What is displaced to an array, directly or through others, must still fit behind Adjust and Displace.
func TestStillFits(t *testing.T) {
	r := array.NewRoom()
	a := mustMake(t, r, own(10), num(1))
	b := mustMake(t, r, shown(a, 2, 6), num(0))
	mustMake(t, r, shown(b, 1, 5), num(0))
	other := mustMake(t, r, own(20), num(2))
	before := dump(r)
	is(t, "Adjust", r.Adjust(a, []int{7}, -2, num(0)), api.ErrSize)
	is(t, "Adjust of what shows", r.Adjust(b, []int{5}, -2, num(0)), api.ErrSize)
	is(t, "Adjust", r.Adjust(a, []int{7}, -2, api.Form{}), api.ErrForm)
	is(t, "Displace", r.Displace(a, []int{7}, other, 0), api.ErrSize)
	is(t, "Displace", r.Displace(a, []int{7}, other, 14), api.ErrRange)
	is(t, "Displace of what shows", r.Displace(b, []int{5}, other, 0), api.ErrSize)
	if !same(dump(r), before) {
		t.Error("an error changed the room")
	}
	is(t, "Adjust", r.Adjust(a, []int{8}, -2, num(0)), api.OK)
	is(t, "Displace", r.Displace(a, []int{8}, other, 12), api.OK)
	if array, at, e := r.Where(2, 4); array != other || at != 12+2+1+4 || e != api.OK {
		t.Errorf("Where = %d, %d, %v", array, at, e)
	}
	is(t, "Adjust", r.Adjust(b, []int{6}, -2, num(0)), api.OK)
	if array, at, _ := r.Where(2, 4); array != b || at != 5 {
		t.Errorf("Where behind the end of a displacement = %d, %d", array, at)
	}
}

func TestDisplace(t *testing.T) {
	fixed := change(own(3), func(a *array.Array) { a.Adjustable = false })
	for i, c := range []struct {
		a              array.Array
		dims           []int
		target, offset int
		want           api.Errno
	}{
		{fixed, []int{-1}, 99, -1, api.ErrArg}, {fixed, []int{3}, 0, 0, api.ErrArg},
		{own(3), []int{2001, 1}, 99, -1, api.ErrRange}, {own(3), []int{2000, 2000}, 99, -1, api.ErrLarge}, {own(3), []int{1, 1}, 99, -1, array.ErrRank}, {own(3), []int{1}, 99, -1, api.ErrNone}, {own(3), []int{1}, -1, 0, api.ErrNone},
		{own(3), []int{1}, 3, -1, api.ErrOrder}, {own(3), []int{1}, 4, -1, api.ErrOrder}, {own(3), []int{1}, 5, 99, api.ErrOrder},
		{own(3), []int{1}, 1, -1, array.ErrBits}, {bits(3), []int{1}, 0, -1, array.ErrBits}, {bits(3), []int{3}, 1, 0, api.OK},
		{own(3), []int{3}, 0, -1, api.ErrRange}, {own(3), []int{3}, 0, 8, api.ErrRange}, {own(3), []int{3}, 0, math.MaxInt, api.ErrRange}, {own(3), []int{3}, 0, 7, api.OK}, {own(3), []int{10}, 0, 0, api.OK}, {own(3), []int{11}, 0, 0, api.ErrRange},
		{filled(3, 3), []int{2}, 0, 0, api.ErrRange}, {filled(2, 3), []int{2}, 0, 0, api.ErrSize}, {own(3), []int{2}, 0, 0, api.ErrSize}, {filled(2, 3), []int{3}, 0, 0, api.OK}, {own(3), []int{3}, 2, 0, api.OK},
	} {
		r := array.NewRoom()
		mustMake(t, r, own(10), num(5))
		mustMake(t, r, bits(10), num(1))
		mustMake(t, r, shown(0, 4, 4), num(0))
		a := mustMake(t, r, c.a, num(0))
		mustMake(t, r, change(shown(a, 0, 3), func(x *array.Array) { x.Bits = c.a.Bits }), num(0))
		mustMake(t, r, change(shown(4, 1, 1), func(x *array.Array) { x.Bits = c.a.Bits }), num(0))
		before := dump(r)
		e := r.Displace(a, c.dims, c.target, c.offset)
		if e != c.want || e != api.OK && !same(dump(r), before) {
			t.Errorf("%d: Displace: %v; expected %v", i, e, c.want)
		}
		if of, _ := r.Of(a); e == api.OK && (of.Target != c.target || of.Offset != c.offset || of.Fill != c.a.Fill || !slices.Equal(of.Dims, c.dims)) {
			t.Errorf("%d: Of = %v", i, of)
		}
	}
}

// A room keeps what was handed in as it was then, and gives nothing out that it keeps.
func TestMemory(t *testing.T) {
	r := array.NewRoom()
	made := own(2)
	x := forms.List([]api.Form{num(1)})
	a := mustMake(t, r, made, x)
	y := forms.List([]api.Form{num(2)})
	is(t, "Set", r.Set(a, 1, y), api.OK)
	want := dump(r)
	made.Dims[0], x.Kids[0].Text, y.Kids[0].Text = 1, "9", "9"
	of, _ := r.Of(a)
	got, _ := r.Get(a, 0)
	l, _ := r.Contents(a)
	f, _ := r.Form(a)
	of.Dims[0], got.Kids[0].Text, l[0].Kids[0].Text, f.Kids[1].Kids[0].Text = 7, "7", "7", "7"
	dims := []int{2}
	is(t, "Adjust", r.Adjust(a, dims, -2, x), api.OK)
	dims[0] = 5
	if !same(dump(r), want) {
		t.Error("the room shares memory")
	}
	stack := mustMake(t, r, filled(0, 1), num(0))
	z, more := forms.List([]api.Form{num(3)}), forms.List([]api.Form{num(4)})
	is(t, "Adjust", r.Adjust(stack, []int{3}, 1, z), api.OK)
	if n, e := r.Push(stack, more, 0); n != 1 || e != api.OK {
		t.Errorf("Push = %d, %v", n, e)
	}
	shows := mustMake(t, r, own(1), num(0))
	one := []int{1}
	is(t, "Displace", r.Displace(shows, one, stack, 2), api.OK)
	want = dump(r)
	z.Kids[0].Text, more.Kids[0].Text, one[0] = "9", "9", 9
	if !same(dump(r), want) {
		t.Error("the room shares memory")
	}
	b := mustMake(t, r, own(3), y)
	l, _ = r.Contents(b)
	l[0].Kids[0].Text = "8"
	if l[1].Kids[0].Text != "9" {
		t.Error("two elements share memory")
	}
}
