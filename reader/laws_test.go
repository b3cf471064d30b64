package reader_test

import (
	"math/rand"
	"slices"
	"strings"
	"testing"

	"commonform/api"
	"commonform/forms"
	"commonform/reader"
	"commonform/token"
)

// blank returns a text of white characters and comments.
func blank(r *rand.Rand, needed bool) string {
	l := []string{" ", "\n", "\t", "; c (\n", "#| c ) |#", "#|a#|b|#|#", " \r\f "}
	b := strings.Builder{}
	if needed {
		b.WriteString(l[r.Intn(3)])
	}
	for range r.Intn(3) {
		b.WriteString(l[r.Intn(len(l))])
	}
	return b.String()
}

// joined puts tokens together, with as little as can be between them, or with blanks.
func joined(r *rand.Rand, tokens []string, withBlanks bool) string {
	b := strings.Builder{}
	for i, s := range tokens {
		isOpen := i == 0 || strings.HasSuffix(tokens[i-1], "(") || slices.Contains([]string{"'", "#'", "`", ",", ",@"}, tokens[i-1]) || strings.HasSuffix(tokens[i-1], "=")
		switch {
		case withBlanks && (s != ")" || r.Intn(2) == 0):
			b.WriteString(blank(r, !isOpen))
		case !isOpen && s != ")":
			b.WriteString(" ")
		}
		b.WriteString(s)
	}
	if withBlanks {
		b.WriteString(blank(r, true))
	}
	return b.String()
}

// P7.2 and P7.5
func TestBlanks(t *testing.T) {
	o := options()
	texts(3000, func(r *rand.Rand, tokens []string) {
		s := joined(r, tokens, false)
		x, _, e := reader.One(o, s)
		if e != api.OK {
			t.Fatalf("One(%q): %v", s, e)
		}
		if d := forms.Check(x.Form); d != api.OK {
			t.Fatalf("One(%q) = %s: %v", s, show(x.Form), d)
		}
		for range 3 {
			blanks := joined(r, tokens, true)
			y, _, e := reader.One(o, blanks)
			if e != api.OK || !equal(x.Form, y.Form) || names(x.References, false) != names(y.References, false) {
				t.Fatalf("One(%q) = %s, %v; of %q it is %s", blanks, show(y.Form), e, s, show(x.Form))
			}
		}
		around := "|( #é " + s[x.From:x.To] + " )\x01\""
		y, _, e := reader.Read(o, around, 6)
		if e != api.OK || !equal(x.Form, y.Form) || y.From != 7 || y.To != 7+x.To-x.From {
			t.Fatalf("Read within %q = %s from %d to %d, %v; alone it is %s", around, show(y.Form), y.From, y.To, e, show(x.Form))
		}
	})
}

// P7.5
func TestSymbolsOfForms(t *testing.T) {
	o := options()
	made := map[string]bool{"COMMON-LISP::QUOTE": true, "COMMON-LISP::FUNCTION": true, "COMMON-LISP::NIL": true, "READER::BACKQUOTE": true, "READER::COMMA": true, "READER::SPLICE": true}
	texts(2000, func(r *rand.Rand, tokens []string) {
		s := joined(r, tokens, true)
		x, _, e := reader.One(o, s)
		if e != api.OK {
			t.Fatalf("One(%q): %v", s, e)
		}
		written, last := map[string]bool{}, -1
		for _, y := range x.References {
			written[y.Home+"::"+y.Name] = true
			k, _, e := token.Next(o.Table, s, y.At)
			n, d := token.Split(k)
			if y.At <= last || y.At < x.From || y.At >= x.To || e != api.OK || d != api.OK || n.Name != y.Name {
				t.Fatalf("One(%q) has the reference %v", s, y)
			}
			last = y.At
		}
		there := map[string]bool{}
		var walk func(f api.Form)
		walk = func(f api.Form) {
			if f.Kind == api.FormSymbol && f.Home != "" {
				name := f.Home + "::" + f.Text
				there[name] = true
				if !written[name] && !made[name] {
					t.Fatalf("One(%q): no reference names %s", s, name)
				}
			}
			for _, k := range f.Kids {
				walk(k)
			}
		}
		walk(x.Form)
		for name := range written {
			if !there[name] {
				t.Fatalf("One(%q): %s is named, but is not there", s, name)
			}
		}
	})
}

func same(a, b reader.Result, moved int) bool {
	if !equal(a.Form, b.Form) || a.From+moved != b.From || a.To+moved != b.To || len(a.References) != len(b.References) {
		return false
	}
	for i, x := range a.References {
		x.At += moved
		if x != b.References[i] {
			return false
		}
	}
	return true
}

// P7.3
func TestSequences(t *testing.T) {
	o := options()
	r := rand.New(rand.NewSource(73))
	right := 0
	for range 20000 {
		a, b := garbage(r, 12), garbage(r, 12)
		first, _, e := reader.All(o, a)
		if e != api.OK {
			continue
		}
		right++
		second, at, e := reader.All(o, b)
		both, place, d := reader.All(o, a+"\n"+b)
		moved := len(a) + 1
		if d != e || e != api.OK && place != at+moved || e == api.OK && len(both) != len(first)+len(second) {
			t.Fatalf("All of %q and %q: %d, %v; of the second one: %d, %v", a, b, place, d, at, e)
		}
		for i, x := range both {
			if i < len(first) && !same(first[i], x, 0) || i >= len(first) && !same(second[i-len(first)], x, moved) {
				t.Fatalf("All of %q and %q has %v", a, b, x)
			}
			y, _, e := reader.Read(o, a+"\n"+b, x.From)
			if e != api.OK || !same(x, y, 0) {
				t.Fatalf("Read(%q, %d) = %v, %v; expected %v", a+"\n"+b, x.From, y, e, x)
			}
		}
	}
	if right < 1000 {
		t.Errorf("%d right texts", right)
	}
}

// P7.4
func TestCuts(t *testing.T) {
	o := options()
	texts(400, func(r *rand.Rand, tokens []string) {
		for i := range tokens {
			s := joined(r, tokens[:i], true)
			l, at, e := reader.All(o, s)
			if e != api.OK && (e != api.ErrEnd || at != len(s) || len(l) > 0) || e == api.OK && at != 0 {
				t.Fatalf("All(%q) = %v, %d, %v", s, l, at, e)
			}
		}
		s := joined(r, tokens, true)
		for i := range s {
			if i%10 != 0 {
				continue
			}
			for at := range s[:min(i, 20)] {
				_, place, e := reader.Read(o, s[:i], at)
				if e != api.OK && (place < at || place > i) {
					t.Fatalf("Read(%q, %d) = %d, %v", s[:i], at, place, e)
				}
			}
			if l, at, e := reader.All(o, s[:i]); e != api.OK && (len(l) > 0 || at > i) {
				t.Fatalf("All(%q) = %v, %d, %v", s[:i], l, at, e)
			}
		}
	})
}

// P7.1 and P1: any text has a right result, or an error with a place.
func TestAnyText(t *testing.T) {
	r := rand.New(rand.NewSource(71))
	o := options()
	kinds := map[api.Errno]int{}
	for n := range 60000 {
		s := garbage(r, 14)
		x := o
		if n%3 == 0 {
			c := []rune("ab()#|\\.,;: 1!\"'")[r.Intn(16)]
			x.Table, _ = token.Set(o.Table, c, r.Intn(7))
			x.Table.Case = r.Intn(4)
			x.Base = 2 + r.Intn(35)
		}
		f, at, e := reader.Read(x, s, 0)
		kinds[e]++
		if e == api.OK && (at != 0 || forms.Check(f.Form) != api.OK || f.From < 0 || f.From >= f.To || f.To > len(s)) {
			t.Fatalf("Read(%q) = %v, %d", s, f, at)
		}
		if e != api.OK && (!isZero(f) || at < 0 || at > len(s) || (e == api.ErrEnd || e == api.ErrNone) && at != len(s)) {
			t.Fatalf("Read(%q) = %v, %d, %v", s, f, at, e)
		}
		to, at, e := reader.Blank(x, s, 0)
		if e == api.OK && (at != 0 || to < 0 || to > len(s)) || e != api.OK && (e != api.ErrEnd || at != len(s) || to != 0) {
			t.Fatalf("Blank(%q) = %d, %d, %v", s, to, at, e)
		}
		if !isText(s) {
			t.Fatalf("%q is no text", s)
		}
	}
	for _, e := range []api.Errno{api.OK, api.ErrNone, api.ErrEnd, api.ErrForm, api.ErrTwice, token.ErrInvalid, token.ErrDots, token.ErrMarker, forms.ErrLabel, reader.ErrClose, reader.ErrComma, reader.ErrDot, reader.ErrHash, reader.ErrMacro, reader.ErrChar, reader.ErrShape} {
		if kinds[e] == 0 {
			t.Errorf("no text has the error %v", e)
		}
	}
}

// Results share no memory with one another, nor within themselves.
func TestMemory(t *testing.T) {
	o := options()
	s := "#3((a b)) (x #1=(y) #1#)"
	l, _, _ := reader.All(o, s)
	first := show(l[0].Form)
	l[0].Form.Kids[2].Kids[0].Text = "CHANGED"
	if show(l[0].Form.Kids[1]) != "(A B)" || first == show(l[0].Form) {
		t.Errorf("repeated elements share memory: %s", show(l[0].Form))
	}
	spoil(l[0].Form)
	again, _, _ := reader.All(o, s)
	if show(again[0].Form) != first || show(l[1].Form) != "(X 1=(Y) 1#)" {
		t.Error("results share memory")
	}
}
