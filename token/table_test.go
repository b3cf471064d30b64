package token_test

import (
	"math"
	"slices"
	"testing"

	"commonform/api"
	"commonform/token"
)

func TestStandard(t *testing.T) {
	for c := rune(0); c <= 0x10ffff; c++ {
		want := kind(token.Table{}, c)
		if c >= 0xd800 && c <= 0xdfff {
			want = token.Invalid
		}
		if got := token.Standard(c); got != want {
			t.Fatalf("Standard(%x) = %d; expected %d", c, got, want)
		}
	}
	for _, c := range []rune{-1, 0x110000, math.MaxInt32, math.MinInt32} {
		if got := token.Standard(c); got != token.Invalid {
			t.Errorf("Standard(%x) = %d", c, got)
		}
	}
}

// entries returns so many entries of characters, ascending.
func entries(n int) []token.Entry {
	var l []token.Entry
	for i := range n {
		l = append(l, token.Entry{Char: rune(0x400 + i), Kind: token.White})
	}
	return l
}

func TestCheck(t *testing.T) {
	e := func(l ...token.Entry) token.Table { return token.Table{Entries: l} }
	for _, x := range []struct {
		t    token.Table
		want api.Errno
	}{
		{token.Table{}, api.OK}, {token.Table{Case: token.Invert}, api.OK}, {token.Table{Entries: entries(64)}, api.OK}, {e(token.Entry{0, token.White}, token.Entry{0x10ffff, token.Single}), api.OK}, {e(token.Entry{' ', token.Invalid}, token.Entry{'a', token.Multiple}), api.OK},
		{token.Table{Entries: entries(65)}, api.ErrSize}, {token.Table{Entries: entries(65), Case: 9}, api.ErrSize}, {token.Table{Entries: make([]token.Entry, 65)}, api.ErrSize},
		{token.Table{Case: 4}, api.ErrArg}, {token.Table{Case: -1}, api.ErrArg}, {token.Table{Entries: entries(64), Case: 9}, api.ErrArg},
		{e(token.Entry{-1, token.White}), api.ErrArg}, {e(token.Entry{0xd800, token.White}), api.ErrArg}, {e(token.Entry{0xdfff, token.White}), api.ErrArg}, {e(token.Entry{0x110000, token.White}), api.ErrArg}, {e(token.Entry{'a', 7}), api.ErrArg}, {e(token.Entry{'a', -1}), api.ErrArg}, {e(token.Entry{'a', token.Constituent}), api.ErrArg}, {e(token.Entry{'|', token.Multiple}), api.ErrArg}, {e(token.Entry{}), api.ErrArg},
		{e(token.Entry{'b', token.White}, token.Entry{'a', token.White}), api.ErrOrder}, {e(token.Entry{'a', token.White}, token.Entry{'a', token.White}), api.ErrOrder}, {e(token.Entry{'a', token.White}, token.Entry{'a', token.Single}), api.ErrOrder},
		{e(token.Entry{'b', token.White}, token.Entry{'a', 9}), api.ErrArg}, {e(token.Entry{'b', token.White}, token.Entry{'a', token.White}, token.Entry{'c', 9}), api.ErrOrder}, {e(token.Entry{'b', 9}, token.Entry{'a', token.White}), api.ErrArg},
	} {
		if got := token.Check(x.t); got != x.want {
			t.Errorf("Check(%v) = %v; expected %v", x.t, got, x.want)
		}
	}
}

func TestKind(t *testing.T) {
	for x := range tables(t) {
		for _, c := range "ab.A1:#|\\!$ é\x01\"\U0001F600\U0010FFFF" {
			if got, e := token.Kind(x, c); got != kind(x, c) || e != api.OK {
				t.Errorf("Kind(%v, %q) = %d, %v", x, c, got, e)
			}
		}
	}
	for _, x := range []struct {
		t    token.Table
		c    rune
		want api.Errno
	}{{token.Table{}, -1, api.ErrArg}, {token.Table{}, 0xdabc, api.ErrArg}, {token.Table{}, 0x110000, api.ErrArg}, {token.Table{Entries: entries(65)}, -1, api.ErrSize}, {token.Table{Case: 4}, 'a', api.ErrArg}} {
		if got, e := token.Kind(x.t, x.c); got != 0 || e != x.want {
			t.Errorf("Kind(%x) = %d, %v; expected %v", x.c, got, e, x.want)
		}
	}
}

func TestSet(t *testing.T) {
	full := token.Table{Entries: entries(64)}
	for _, x := range []struct {
		t    token.Table
		c    rune
		kind int
		want api.Errno
	}{
		{full, 'a', token.White, api.ErrFull}, {full, 'a', token.Constituent, api.OK}, {full, 0x400, token.Single, api.OK}, {full, 0x43f, token.Constituent, api.OK}, {full, 0x440, token.White, api.ErrFull},
		{full, -1, token.White, api.ErrArg}, {full, 0xd900, token.White, api.ErrArg}, {full, 'a', 7, api.ErrArg}, {full, 'a', -1, api.ErrArg}, {token.Table{}, 0x110000, 0, api.ErrArg},
		{token.Table{Entries: entries(65)}, -1, 9, api.ErrSize}, {token.Table{Case: 7}, 'a', token.White, api.ErrArg},
	} {
		y, e := token.Set(x.t, x.c, x.kind)
		if e != x.want || e != api.OK && !sameTables(y, token.Table{}) {
			t.Errorf("Set(%q, %d) = %v, %v; expected %v", x.c, x.kind, y, e, x.want)
		}
	}
}

// P6.2
func TestReadtables(t *testing.T) {
	chars := []rune("!a|\\ #\x00\U0010ffff")
	for x := range tables(t) {
		before := slices.Clone(x.Entries)
		for _, c := range chars {
			old := kind(x, c)
			for k := range 7 {
				y, e := token.Set(x, c, k)
				if e != api.OK || token.Check(y) != api.OK || y.Case != x.Case {
					t.Fatalf("Set(%v, %q, %d) = %v, %v", x, c, k, y, e)
				}
				for _, d := range chars {
					if d == c && kind(y, d) != k || d != c && kind(y, d) != kind(x, d) {
						t.Fatalf("Set(%v, %q, %d): %q is of the kind %d", x, c, k, d, kind(y, d))
					}
				}
				if z, e := token.Set(y, c, old); e != api.OK || !sameTables(z, x) {
					t.Fatalf("Set back of %v: %v, %v", x, z, e)
				}
				for _, d := range chars {
					if d == c {
						continue
					}
					one, _ := token.Set(y, d, token.Single)
					two, _ := token.Set(x, d, token.Single)
					two, _ = token.Set(two, c, k)
					if !sameTables(one, two) {
						t.Fatalf("Set of %q and %q in both orders: %v, %v", c, d, one, two)
					}
				}
			}
		}
		if !slices.Equal(x.Entries, before) {
			t.Fatal("an argument was changed")
		}
	}
}

// A result shares no memory with an argument, also behind the end of its entries.
func TestMemoryOfSet(t *testing.T) {
	room := entries(10)
	x := token.Table{Entries: room[:5]}
	before := slices.Clone(room)
	for _, c := range []rune{'a', 0x400, 0x402, 0x404, 0x10ffff} {
		for k := range 7 {
			y, _ := token.Set(x, c, k)
			for i := range y.Entries[:cap(y.Entries)] {
				y.Entries[:cap(y.Entries)][i] = token.Entry{}
			}
			if !slices.Equal(room, before) {
				t.Fatalf("Set(%q, %d) shares memory", c, k)
			}
		}
	}
}
