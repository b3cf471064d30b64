package array_test

import (
	"math"
	"strings"
	"testing"

	"commonform/api"
	"commonform/array"
)

func TestSetFill(t *testing.T) {
	r := array.NewRoom()
	v := mustMake(t, r, filled(1, 4), num(0))
	count(t, r, v, 0)
	for _, c := range []struct {
		a, fill int
		want    api.Errno
		left    string
	}{
		{v, 4, api.OK, "0 1 2 3"}, {v, 0, api.OK, ""}, {v, 2, api.OK, "0 1"}, {v, 5, api.ErrRange, "0 1"}, {v, -1, api.ErrRange, "0 1"}, {v, math.MaxInt, api.ErrRange, "0 1"},
		{mustMake(t, r, own(3), num(0)), -1, array.ErrFill, "0 0 0"}, {mustMake(t, r, own(), num(0)), 0, array.ErrFill, "0"},
	} {
		e := r.SetFill(c.a, c.fill)
		if got := texts(t, r, c.a); e != c.want || got != c.left {
			t.Errorf("SetFill(%d): %v, and the contents %s", c.fill, e, got)
		}
	}
}

func TestPush(t *testing.T) {
	fixed := func(a array.Array) array.Array {
		return change(a, func(a *array.Array) { a.Adjustable = false })
	}
	for i, c := range []struct {
		a       array.Array
		x       api.Form
		extend  int
		want    api.Errno
		behind  string
		dim     int
		element int
	}{
		{filled(0, 2), num(7), 0, api.OK, "7", 2, 0}, {filled(1, 2), num(7), -1, api.OK, "1 7", 2, 1}, {fixed(filled(1, 2)), num(7), math.MinInt, api.OK, "1 7", 2, 1},
		{filled(2, 2), num(7), 0, api.ErrFull, "1 1", 2, 0}, {fixed(filled(2, 2)), num(7), 3, api.ErrFull, "1 1", 2, 0}, {fixed(filled(2, 2)), num(7), -3, api.ErrFull, "1 1", 2, 0}, {filled(2, 2), num(7), -1, api.ErrRange, "1 1", 2, 0}, {filled(2, 2), num(7), -9, api.ErrRange, "1 1", 2, 0}, {filled(2, 2), num(7), 1999, api.ErrRange, "1 1", 2, 0}, {filled(2, 2), num(7), math.MaxInt, api.ErrRange, "1 1", 2, 0}, {filled(2, 2), num(7), math.MinInt, api.ErrRange, "1 1", 2, 0},
		{filled(2, 2), num(7), 1, api.OK, "1 1 7", 3, 2}, {filled(2, 2), num(7), 1998, api.OK, "1 1 7", 2000, 2}, {filled(0, 0), num(7), 5, api.OK, "7", 5, 0},
		{filled(2, 2), api.Form{}, 0, api.ErrForm, "1 1", 2, 0}, {own(2), api.Form{}, 0, array.ErrFill, "1 1", 2, 0}, {own(2, 1), num(0), 1, array.ErrFill, "1 1", 2, 0}, {change(bits(2), func(a *array.Array) { a.Fill = 2 }), num(2), 0, array.ErrBits, "1 1", 2, 0}, {change(bits(2), func(a *array.Array) { a.Fill = 2 }), num(0), 1, api.OK, "1 1 0", 3, 2},
	} {
		r := array.NewRoom()
		a := mustMake(t, r, c.a, num(1))
		before := dump(r)
		n, e := r.Push(a, c.x, c.extend)
		of, _ := r.Of(a)
		if got := texts(t, r, a); n != c.element || e != c.want || got != c.behind || of.Dims[0] != c.dim || e != api.OK && !same(dump(r), before) {
			t.Errorf("%d: Push = %d, %v; then the contents %s, and %v", i, n, e, got, of)
		}
	}
}

// Push adjusts as Adjust does: what shows another array has elements of its own then, and the elements behind the new one are like it.
func TestPushAdjusts(t *testing.T) {
	r := array.NewRoom()
	a := mustMake(t, r, own(6), num(0))
	v := mustMake(t, r, change(shown(a, 1, 2), func(x *array.Array) { x.Fill = 1 }), num(0))
	over := mustMake(t, r, shown(v, 0, 2), num(0))
	if n, e := r.Push(v, num(5), 9); n != 1 || e != api.OK || texts(t, r, a) != "0 0 5 0 0 0" {
		t.Errorf("Push = %d, %v", n, e)
	}
	if n, e := r.Push(v, num(6), 2); n != 2 || e != api.OK || texts(t, r, a) != "0 0 5 0 0 0" {
		t.Errorf("Push = %d, %v", n, e)
	}
	x, _ := r.Get(v, 3)
	if of, _ := r.Of(v); of.Target != -1 || of.Offset != 0 || of.Fill != 3 || x.Text != "6" {
		t.Errorf("Of = %v, and the element behind is %s", of, x.Text)
	}
	is(t, "Set", r.Set(v, 0, num(8)), api.OK)
	if got := texts(t, r, over); got != "8 5" {
		t.Errorf("what shows the vector has %s", got)
	}
}

func TestPop(t *testing.T) {
	r := array.NewRoom()
	v := mustMake(t, r, filled(2, 4), num(0))
	count(t, r, v, 0)
	for i, want := range []string{"1", "0"} {
		if x, e := r.Pop(v); e != api.OK || x.Text != want {
			t.Errorf("Pop %d = %v, %v", i, x, e)
		}
	}
	for _, a := range []int{v, mustMake(t, r, own(3), num(0)), mustMake(t, r, own(), num(0))} {
		before := dump(r)
		if x, e := r.Pop(a); e != array.ErrFill || x.Kind != 0 || !same(dump(r), before) {
			t.Errorf("Pop of nothing = %v, %v", x, e)
		}
	}
}

// bitsOf makes an array of bits with these elements.
func bitsOf(t *testing.T, r *array.Room, s string, dims ...int) int {
	a := mustMake(t, r, bits(dims...), num(0))
	for i, c := range s {
		is(t, "Set", r.Set(a, i, num(int(c-'0'))), api.OK)
	}
	return a
}

func bitTexts(t *testing.T, r *array.Room, a int) string {
	return strings.ReplaceAll(texts(t, r, a), " ", "")
}

// P11.6, and each of the sixteen operations by its definition.
func TestBoole(t *testing.T) {
	for op := range 16 {
		r := array.NewRoom()
		a := bitsOf(t, r, "0011", 4)
		b := bitsOf(t, r, "0101", 4)
		c := bitsOf(t, r, "1010", 4)
		d := bitsOf(t, r, "0000", 4)
		is(t, "Boole", r.Boole(op, a, b, c), api.OK)
		is(t, "Boole", r.Boole(15-op, a, b, d), api.OK)
		want, complement := "", ""
		for place := range 4 {
			want += string(rune('0' + op>>place&1))
			complement += string(rune('1' - op>>place&1))
		}
		if got := bitTexts(t, r, c); got != want || bitTexts(t, r, d) != complement || bitTexts(t, r, a) != "0011" || bitTexts(t, r, b) != "0101" {
			t.Errorf("Boole(%d) = %s", op, got)
		}
		is(t, "Boole", r.Boole(6, a, a, a), api.OK)
		is(t, "Boole", r.Boole(12, c, b, d), api.OK)
		if bitTexts(t, r, a) != "0000" || bitTexts(t, r, d) != want {
			t.Error("6 does not clear, or 12 does not copy")
		}
	}
}

func TestBooleErrors(t *testing.T) {
	r := array.NewRoom()
	a := bitsOf(t, r, "001100", 2, 3)
	same := bitsOf(t, r, "111000", 2, 3)
	other := bitsOf(t, r, "111000", 3, 2)
	flat := bitsOf(t, r, "111000", 6)
	plain := mustMake(t, r, own(2, 3), num(1))
	vector := mustMake(t, r, change(bits(6), func(x *array.Array) { x.Fill = 2 }), num(1))
	for i, c := range []struct {
		op, a, b, into int
		want           api.Errno
	}{
		{16, plain, other, flat, api.ErrArg}, {-1, a, a, a, api.ErrArg}, {0, a, same, plain, array.ErrBits}, {0, a, plain, other, array.ErrBits}, {0, plain, flat, a, array.ErrBits}, {1, a, other, a, array.ErrRank}, {1, a, a, flat, array.ErrRank}, {1, flat, a, a, array.ErrRank}, {8, a, same, a, api.OK}, {15, vector, flat, vector, api.OK},
		{99, a, 99, plain, api.ErrNone},
	} {
		if e := r.Boole(c.op, c.a, c.b, c.into); e != c.want {
			t.Errorf("%d: Boole: %v; expected %v", i, e, c.want)
		}
	}
	if got := bitTexts(t, r, a); got != "001000" {
		t.Errorf("and = %s", got)
	}
	if x, _ := r.Get(vector, 5); x.Text != "1" {
		t.Error("the fill pointer plays a part")
	}
}

// Elements are changed one after the other, also those that are looked at later.
func TestBooleInOrder(t *testing.T) {
	r := array.NewRoom()
	all := bitsOf(t, r, "10000", 5)
	behind := mustMake(t, r, change(shown(all, 1, 4), func(x *array.Array) { x.Bits = true }), num(0))
	ahead := mustMake(t, r, change(shown(all, 0, 4), func(x *array.Array) { x.Bits = true }), num(0))
	is(t, "Boole", r.Boole(12, ahead, ahead, behind), api.OK)
	if got := bitTexts(t, r, all); got != "11111" {
		t.Errorf("a copy to the place behind makes %s", got)
	}
}
