package lib_test

import (
	"math/rand"
	"strconv"
	"strings"
	"testing"

	"commonform/api"
	"commonform/forms"
	"commonform/heap"
	"commonform/lib"
	"commonform/symbols"
)

func node(kind int, text string, kids ...api.Form) api.Form {
	return api.Form{Kind: kind, Text: text, Kids: kids}
}

// What objects forms have.
func TestBuildObjects(t *testing.T) {
	w := newWorld(t)
	h := w.Heap()
	a, _ := heap.Char('é')
	for _, c := range []struct {
		s string
		x heap.Word
	}{{"5", fix(5)}, {"-1152921504606846976", fix(-1152921504606846976)}, {"1152921504606846975", fix(1152921504606846975)}, {"#\\é", a}, {"nil", heap.Nil}, {"car", lisp(t, w, "CAR")}, {"0", fix(0)}} {
		if x := object(t, w, c.s); x != c.x {
			t.Errorf("Build(%s) = %v; want %v", c.s, x, c.x)
		}
	}
	for _, c := range []struct {
		s     string
		kind  int
		bytes string
	}{
		{"1152921504606846976", heap.KindInt, "1152921504606846976"}, {"-1152921504606846977", heap.KindInt, "-1152921504606846977"}, {"1/2", heap.KindRatio, "1/2"}, {"1.0", heap.KindSingle, "3f800000"}, {"1d0", heap.KindDouble, "3ff0000000000000"}, {"\"aé\"", heap.KindString, "aé"}, {"#*01", heap.KindBits, "01"}, {"\"\"", heap.KindString, ""},
	} {
		x := object(t, w, c.s)
		if s, e := h.Bytes(x); h.Kind(x) != c.kind || s != c.bytes || e != api.OK {
			t.Errorf("Build(%s) has the kind %d and the bytes %q", c.s, h.Kind(x), s)
		}
	}
	for _, c := range []struct {
		s      string
		kind   int
		fields string
	}{
		{"(1 . 2)", heap.KindCons, "1 2"}, {"(1 2)", heap.KindCons, "1 (2)"}, {"#(1 a)", heap.KindVector, "1 a"}, {"#()", heap.KindVector, ""}, {"#c(1 2.5)", heap.KindComplex, "1.0 2.5"}, {"#2a((1 2) (3 4))", heap.KindArray, "#(2 2) #(1 2 3 4)"}, {"#0a5", heap.KindArray, "#() #(5)"}, {"#2a()", heap.KindArray, "#(0 0) #()"},
	} {
		x := object(t, w, c.s)
		var fields []heap.Word
		for i := range h.Len(x) {
			y, _ := h.Get(x, i)
			fields = append(fields, y)
		}
		if h.Kind(x) != c.kind || allShown(w, fields) != c.fields {
			t.Errorf("Build(%s) has the kind %d and the fields %s", c.s, h.Kind(x), allShown(w, fields))
		}
	}
	// Labels, and symbols without a home.
	x := object(t, w, "(#1=\"a\" #1# #2=#(#2#) #3=12345678901234567890 #3# #4=b #4# #5=#2a((#5#)) #6=(x . #6#))")
	var l []heap.Word
	for y := x; h.Kind(y) == heap.KindCons && len(l) < 9; {
		car, _ := h.Get(y, 0)
		l = append(l, car)
		y, _ = h.Get(y, 1)
	}
	self, _ := h.Get(l[2], 0)
	elements, _ := h.Get(l[7], 1)
	array, _ := h.Get(elements, 0)
	tail, _ := h.Get(l[8], 1)
	if l[0] != l[1] || self != l[2] || l[3] != l[4] || l[5] != l[6] || array != l[7] || tail != l[8] {
		t.Error("what has a label is several objects")
	}
	y := object(t, w, "(#:a #:a #:b)")
	first, _ := h.Get(y, 0)
	rest, _ := h.Get(y, 1)
	second, _ := h.Get(rest, 0)
	if again := object(t, w, "#:a"); first != second || again == first {
		t.Error("a symbol without a home is one of each form")
	}
	if v, _ := w.Value(first); v != heap.Unbound {
		t.Errorf("a symbol without a home has the value %v", v)
	}
}

// The first error of Build, which changes nothing.
func TestBuildErrors(t *testing.T) {
	long := strings.Repeat("X", api.MaxName+1)
	sym := func(home, name string) api.Form { return forms.Symbol(home, name) }
	list := func(l ...api.Form) api.Form { return forms.List(l) }
	great := node(api.FormString, strings.Repeat("x", 500))
	for i, c := range []struct {
		f api.Form
		e api.Errno
	}{
		{api.Form{}, api.ErrForm},
		{node(api.FormInt, "01"), api.ErrForm},
		{node(api.FormRef, "0"), forms.ErrLabel},
		{list(make([]api.Form, api.MaxForm)...), api.ErrSize},
		{sym("NOPE", "X"), api.ErrNone},
		{sym("COMMON-LISP", long), api.ErrSize},
		{sym("", long), api.ErrSize},
		{sym(long, "X"), api.ErrSize},
		{sym("NOPE", long), api.ErrSize},
		{list(sym("NOPE", "X"), sym("", long)), api.ErrNone},
		{list(sym("", long), sym("NOPE", "X")), api.ErrSize},
		{list(great, sym("NOPE", "X")), api.ErrNone},
		{list(sym("COMMON-LISP-USER", "NEW"), great), api.ErrWords},
		{node(api.FormString, strings.Repeat("x", 131072)), api.OK},
		{node(api.FormString, strings.Repeat("x", 131073)), api.ErrWords},
		{node(api.FormInt, "1"+strings.Repeat("0", 131072)), api.ErrWords},
		{list(great, node(api.FormString, strings.Repeat("x", 131073)), great), api.ErrWords},
		{sym("COMMON-LISP", long[1:]), api.OK},
		{sym("", long[1:]), api.OK},
	} {
		w := tightWorld(t, 60)
		if len(c.f.Text) > 1000 {
			w = newWorld(t)
		}
		before, used := state(t, w), w.Heap().Used()
		if x, e := w.Build(c.f); e != c.e || e != api.OK && (x != 0 || state(t, w) != before || w.Heap().Used() != used) {
			t.Errorf("%d: Build: %v; want %v", i, e, c.e)
		}
	}
}

// Room for just what is made.
func TestBuildRoom(t *testing.T) {
	for _, c := range []struct {
		s     string
		words int
	}{
		{"5", 0}, {"#\\a", 0}, {"car", 0}, {"(1 2 . 3)", 6}, {"(1 2)", 6}, {"\"\"", 1}, {"\"12345678\"", 2}, {"\"123456789\"", 3}, {"1/2", 2}, {"1d0", 3}, {"1152921504606846976", 4}, {"#c(1 2)", 3}, {"#c(1.0 2.0)", 7}, {"#(1 2)", 3}, {"#*01", 2}, {"#2a((1 2) (3 4))", 3 + 3 + 5}, {"#0a5", 3 + 1 + 2},
		{"x", 8}, {"(x x x)", 9 + 8}, {"(x y)", 6 + 16}, {"(x :x)", 6 + 16}, {"(x #:x #:x)", 9 + 16}, {"integer", 8}, {"(integer common-lisp::integer)", 6 + 8}, {"(cl-user::x common-lisp-user::x x)", 9 + 8}, {"(cl::x x)", 6 + 16}, {"(#1=(a) #1#)", 6 + 3 + 8}, {"#1=(a . #1#)", 3 + 8}, {"#1=12345678901234567890", 4},
	} {
		w := tightWorld(t, c.words)
		if x, e := w.Build(read(t, c.s)); e != api.OK || w.Heap().Used() != w.Heap().Limit() {
			t.Errorf("Build(%s) with %d words: %v, %v", c.s, c.words, x, e)
		}
		if c.words == 0 {
			continue
		}
		w = tightWorld(t, c.words-1)
		before, used := state(t, w), w.Heap().Used()
		if x, e := w.Build(read(t, c.s)); x != 0 || e != api.ErrWords || state(t, w) != before || w.Heap().Used() != used {
			t.Errorf("Build(%s) with %d words: %v; want ErrWords", c.s, c.words-1, e)
		}
	}
	// A full table: all symbols are made, or none.
	w := newWorld(t)
	fill(t, w, 2)
	before := state(t, w)
	for _, s := range []string{"(a b c)", "(a #:a b)", "(a #:b #:c)"} {
		if x, e := w.Build(read(t, s)); x != 0 || e != api.ErrFull || state(t, w) != before {
			t.Errorf("Build(%s): %v; want ErrFull", s, e)
		}
	}
	if _, e := w.Build(read(t, "(a b a b car integer)")); e != api.OK {
		t.Errorf("Build of two new symbols: %v", e)
	}
	if _, e := w.Build(read(t, "(a b fill500 list)")); e != api.OK {
		t.Errorf("Build without new symbols: %v", e)
	}
	if _, e := w.Build(read(t, "c")); e != api.ErrFull {
		t.Errorf("Build of a new symbol: %v; want ErrFull", e)
	}
}

// What has no form, and what looks like something else.
func TestShowStrange(t *testing.T) {
	w := newWorld(t)
	for kind, name := range map[int]string{heap.KindTable: "TABLE", heap.KindEntry: "ENTRY", heap.KindClosure: "CLOSURE", heap.KindCode: "CLOSURE", heap.KindBuiltin: "BUILTIN", heap.KindClass: "CLASS", heap.KindInstance: "INSTANCE", heap.KindGeneric: "GENERIC", heap.KindMethod: "METHOD", heap.KindWeak: "WEAK", heap.KindPackage: "PACKAGE", heap.KindBox: "BOX", heap.KindEphemeron: "EPHEMERON", 26: "OBJECT", 31: "OBJECT"} {
		x := making(t, w, kind, heap.Nil, heap.Nil)
		if f, e := w.Show(x); e != api.OK || !forms.Equal(f, forms.Symbol("%", name)) {
			t.Errorf("Show of the kind %d is %s, %v; want %s", kind, text(f), e, name)
		}
		if f, e := w.Show(making(t, w, heap.KindCons, x, x)); e != api.OK || !forms.Equal(f, forms.Dotted([]api.Form{forms.Symbol("%", name)}, forms.Symbol("%", name))) {
			t.Errorf("Show of two of the kind %d is %s, %v", kind, text(f), e)
		}
	}
	for _, c := range []struct {
		x    heap.Word
		want string
	}{
		{heap.Unbound, "%::unbound"}, {making(t, w, heap.KindCons, fix(1)), "%::object"}, {raw(t, w, heap.KindCons, "ab"), "%::object"}, {making(t, w, heap.KindCons, fix(1), fix(2), fix(3)), "%::object"}, {making(t, w, heap.KindString, fix(1)), "%::object"}, {making(t, w, heap.KindInt), "%::object"}, {making(t, w, heap.KindComplex, fix(1)), "%::object"}, {making(t, w, heap.KindComplex, fix(1), heap.Nil), "%::object"}, {raw(t, w, heap.KindVector, ""), "%::object"}, {making(t, w, heap.KindSymbol), "%::object"}, {raw(t, w, heap.KindSymbol, "X"), "%::object"},
		{raw(t, w, heap.KindInt, "5"), "5"}, {raw(t, w, heap.KindInt, "x"), "error 4"}, {raw(t, w, heap.KindString, "\xff"), "error 4"}, {raw(t, w, heap.KindBits, "2"), "error 4"}, {raw(t, w, heap.KindRatio, "2/4"), "error 4"}, {making(t, w, heap.KindComplex, fix(1), fix(0)), "error 4"}, {making(t, w, heap.KindCons, heap.Nil, raw(t, w, heap.KindString, "\xff")), "error 4"},
		{heap.Word(7), "error 170"}, {heap.Word(8*60000 + 3), "error 170"}, {heap.Word(8*1 + 3), "error 170"},
	} {
		if got := shown(w, c.x); got != c.want {
			t.Errorf("Show(%v) is %s; want %s", c.x, got, c.want)
		}
	}
	f, e := w.Show(heap.Word(7))
	if e != heap.ErrWord || f.Kind != 0 {
		t.Errorf("Show of a bad word: %v, %v", f, e)
	}
}

// Sharing, circles and sizes.
func TestShow(t *testing.T) {
	w := newWorld(t)
	for _, s := range []string{
		"#0=(a . #0#)", "(#0=(a) #0#)", "(a . #0=(b . #0#))", "(#0=\"x\" #0# . #1=#(#1# #0#))", "#0=#2A((#0# (1)) (#1=(2) #1#))", "(#0=(1 2) . #0#)", "((1 2) 1 2)", "(1 1 a a #\\x #\\x 1.5 1.5)", "#0=(#0# . #0#)", "(#0=#*01 #0#)", "#(#0=(1) (2 . #0#))", "(1 (2 (3 . 4) #(5)) . 6)", "#:x", "(#C(1 2) 1/2)", "#0A(1)",
	} {
		if got := shown(w, object(t, w, s)); got != strings.ToLower(s) && got != s {
			t.Errorf("Show of %s is %s", s, got)
		}
	}
	// Several occurrences of a number are not shared.
	n := object(t, w, "1/2")
	if got := shown(w, making(t, w, heap.KindCons, n, n)); got != "(1/2 . 1/2)" {
		t.Errorf("a number twice is %s", got)
	}
	list := func(n int, car heap.Word) heap.Word {
		l := heap.Nil
		for range n {
			l = making(t, w, heap.KindCons, car, l)
		}
		return l
	}
	nest := func(n int) heap.Word {
		l := heap.Nil
		for range n {
			l = making(t, w, heap.KindCons, l, heap.Nil)
		}
		return l
	}
	for i, c := range []struct {
		x heap.Word
		e api.Errno
	}{
		{list(api.MaxForm-2, fix(1)), api.OK}, {list(api.MaxForm-1, fix(1)), api.ErrSize}, {list(10000, fix(1)), api.ErrSize}, {nest(api.MaxDepth - 1), api.OK}, {nest(api.MaxDepth), api.ErrSize}, {nest(3000), api.ErrSize}, {list(300, object(t, w, "(1 2 3 4)")), api.OK}, {list(700, object(t, w, "#c(1 2)")), api.ErrSize}, {list(400, object(t, w, "#c(1 2)")), api.OK},
	} {
		if f, e := w.Show(c.x); e != c.e || e != api.OK && f.Kind != 0 {
			t.Errorf("%d: Show: %v; want %v", i, e, c.e)
		}
	}
	// An array of more than 2000 elements in one dimension has no form.
	set(t, w, "A", call(t, w, "(make-array (2001 0))").Values[0])
	if got := told(w, call(t, w, "(identity $a)")); got != "error 4" {
		t.Errorf("Show of a great array: %s", got)
	}
}

// A grower makes forms, some parts of which have labels.
type grower struct {
	r      *rand.Rand
	labels int
}

func (g *grower) form(depth int) api.Form {
	n := g.r.Intn(16)
	if depth == 0 {
		n %= 9
	}
	texts := []string{"X", "CAR", "NIL", "K", "", "LONGER-NAME"}
	homes := []string{"COMMON-LISP-USER", "COMMON-LISP", "KEYWORD", "P"}
	switch n {
	case 0, 1:
		return forms.Symbol(homes[g.r.Intn(len(homes))], texts[g.r.Intn(len(texts))])
	case 2:
		return node(api.FormInt, []string{"0", "-7", "1152921504606846975", "1152921504606846976", "-123456789012345678901234567890"}[g.r.Intn(5)])
	case 3:
		return []api.Form{node(api.FormRatio, "-3/4"), node(api.FormSingle, "3f800000"), node(api.FormDouble, "3ff0000000000000")}[g.r.Intn(3)]
	case 4:
		return node(api.FormComplex, "", node(api.FormInt, "5"), node(api.FormRatio, "1/2"))
	case 5:
		return node(api.FormChar, "é")
	case 6:
		return node(api.FormString, []string{"", "abc", "aé\n"}[g.r.Intn(3)])
	case 7:
		return node(api.FormBits, "0110")
	case 8:
		if g.labels > 0 {
			return node(api.FormRef, strconv.Itoa(g.r.Intn(g.labels)))
		}
		return forms.Nil()
	case 9, 10, 11:
		l := g.some(depth, 1+g.r.Intn(3))
		tail := forms.Nil()
		if g.r.Intn(3) == 0 {
			tail = g.form(depth - 1)
		}
		return forms.Dotted(l, tail)
	case 12:
		return node(api.FormVector, "", g.some(depth, g.r.Intn(3))...)
	case 13:
		return node(api.FormArray, "2 1", g.some(depth, 2)...)
	}
	label := strconv.Itoa(g.labels)
	g.labels++
	kid := g.form(depth - 1)
	if kid.Kind == api.FormLabel || kid.Kind == api.FormRef {
		kid = forms.Dotted([]api.Form{kid}, forms.Nil())
	}
	return node(api.FormLabel, label, kid)
}

func (g *grower) some(depth, n int) []api.Form {
	var l []api.Form
	for range n {
		l = append(l, g.form(depth-1))
	}
	return l
}

// resolved returns a form with the symbols that the packages have in the place of those that are written.
func resolved(f api.Form) api.Form {
	inherited := f.Text == "CAR" || f.Text == "NIL"
	if f.Kind == api.FormSymbol && f.Home == "COMMON-LISP-USER" && inherited {
		f.Home = "COMMON-LISP"
	}
	var kids []api.Form
	for _, k := range f.Kids {
		kids = append(kids, resolved(k))
	}
	f.Kids = kids
	return f
}

// P20.2: Show of Build is Normal, and Build of Show makes a similar object.
func TestFormsThereAndBack(t *testing.T) {
	built := 0
	for seed := range int64(2500) {
		g := &grower{r: rand.New(rand.NewSource(seed))}
		f := g.form(4)
		normal, e := forms.Normal(resolved(f))
		if e != api.OK {
			continue
		}
		built++
		w := newWorld(t)
		w.Symbols().Make("P", nil, nil)
		x, e := w.Build(f)
		if e != api.OK {
			t.Fatalf("Build(%s): %v", text(f), e)
		}
		got, e := w.Show(x)
		if e != api.OK || !forms.Equal(got, normal) {
			t.Fatalf("Show of Build of %s is %s, %v; want %s", text(f), text(got), e, text(normal))
		}
		y, e := w.Build(got)
		if e != api.OK {
			t.Fatal(e)
		}
		again, e := w.Show(y)
		if e != api.OK || !forms.Equal(again, got) {
			t.Fatalf("Show of Build of Show is %s, %v; want %s", text(again), e, text(got))
		}
	}
	if built < 1500 {
		t.Errorf("only %d forms", built)
	}
}

// A form shares no memory with what it is made of, and none is kept.
func TestFormMemory(t *testing.T) {
	w := newWorld(t)
	f := read(t, "(a #(1 2))")
	x, _ := w.Build(f)
	f.Kids[0].Text = "B"
	first, _ := w.Show(x)
	first.Kids[1].Kids[0].Text = "7"
	if got := shown(w, x); got != "(a #(1 2))" {
		t.Errorf("the object has become %s", got)
	}
}

// Parts of a world, and a world of parts.
func TestPartsAndRestore(t *testing.T) {
	w := newWorld(t)
	object(t, w, "(x y :k integer #:z)")
	set(t, w, "X", object(t, w, "#1=(1 . #1#)"))
	call(t, w, "(%fset y car)")
	call(t, w, "(%set-plist nil (a 1))")
	call(t, w, "(gensym)")
	call(t, w, "(princ \"out\")")
	w.Symbols().Intern("COMMON-LISP-USER", "WITHOUT-OBJECT")
	p, cells, fields := parts(t, w, object(t, w, "(1 x)"), fix(5))
	other, words, e := lib.Restore(api.MaxWords, 1000, p, cells, fields)
	if e != api.OK || len(words) != 2 || shown(other, words[0]) != "(1 x)" || words[1] != fix(5) {
		t.Fatalf("Restore: %v, %v", words, e)
	}
	if state(t, w) != state(t, other) {
		t.Error("the world that was restored has another state")
	}
	p2, cells2, fields2 := parts(t, other, words...)
	if p2.Table != p.Table || len(cells) != len(cells2) || len(fields) != len(fields2) || len(other.Heap().Roots()) != len(p.Numbers) {
		t.Error("the world that was restored has other parts")
	}
	rows := []row{{"(car x)", "! TYPE-ERROR x list"}, {"(y (1 2))", "1"}, {"(symbol-plist nil)", "(a 1)"}, {"(symbol-value x)", "#0=(1 . #0#)"}, {"(gensym)", "#:g1"}, {"(princ \"more\")", "\"more\""}, {"(intern \"NEW\")", "new nil"}, {"(set t 1)", "! PROGRAM-ERROR t"}, {"(set :k 1)", "! PROGRAM-ERROR :k"}}
	check(t, w, rows)
	check(t, other, rows)
	if w.Output() != other.Output() || w.Output() != "outmore" {
		t.Errorf("the outputs are %q and %q", w.Output(), other.Output())
	}
	other.SetExtra("x", 5)
	if w.Extra("x") != nil {
		t.Error("both worlds are one")
	}
}

// parts returns what Restore takes.
func parts(t *testing.T, w *lib.World, words ...heap.Word) (lib.Parts, []heap.Cell, []heap.Field) {
	t.Helper()
	p := w.Parts()
	all := append([]heap.Word(nil), p.Words...)
	for i := range 5 {
		x, _ := w.Heap().Get(heap.Nil, i)
		all = append(all, x)
	}
	cells, fields, e := w.Heap().Cells(append(all, words...))
	if e != api.OK {
		t.Fatal(e)
	}
	return p, cells, fields
}

// A world with just the symbol NIL, and one more.
func TestRestoreSmall(t *testing.T) {
	table := symbols.New()
	table.Intern("COMMON-LISP", "NIL")
	table.Intern("COMMON-LISP-USER", "A")
	nilFields := []heap.Field{{Object: -1, Word: fix(0)}, {Object: 0}, {Object: -2}, {Object: -1, Word: heap.Unbound}, {Object: -2}}
	name := func(s string) heap.Cell { return heap.Cell{Kind: heap.KindString, Raw: true, Bytes: s} }
	symbolCell := func(kind, n int) heap.Cell {
		return heap.Cell{Kind: kind, Fields: []heap.Field{{Object: -1, Word: fix(int64(n))}, {Object: 1}, {Object: -2}, {Object: -2}, {Object: -2}}}
	}
	right := func() (lib.Parts, []heap.Cell, []heap.Field) {
		return lib.Parts{Table: table.Text(), Numbers: []int{0, 1}}, []heap.Cell{name("NIL"), name("A"), symbolCell(heap.KindSymbol, 1)}, append([]heap.Field{{Object: -2}, {Object: 2}}, nilFields...)
	}
	for i, c := range []struct {
		change       func(p *lib.Parts, cells []heap.Cell, fields []heap.Field) []heap.Field
		limit, young int
		e            api.Errno
	}{
		{nil, 64, 1, api.OK},
		{nil, 63, 1, api.ErrArg},
		{nil, 64, 0, api.ErrArg},
		{func(p *lib.Parts, _ []heap.Cell, f []heap.Field) []heap.Field { p.Table = ""; p.Counter = -1; return f }, 64, 1, api.ErrForm},
		{func(p *lib.Parts, _ []heap.Cell, f []heap.Field) []heap.Field { p.Table += "x"; return f }, 64, 1, api.ErrForm},
		{func(p *lib.Parts, _ []heap.Cell, f []heap.Field) []heap.Field {
			p.Table = strings.Repeat("x", 200001)
			return f
		}, 64, 1, api.ErrForm},
		{func(p *lib.Parts, _ []heap.Cell, f []heap.Field) []heap.Field {
			p.Output, p.Counter = strings.Repeat("x", api.MaxOutput+1), -1
			return f
		}, 64, 1, api.ErrLarge},
		{func(p *lib.Parts, _ []heap.Cell, f []heap.Field) []heap.Field {
			p.Output = strings.Repeat("x", api.MaxOutput)
			return f
		}, 64, 1, api.OK},
		{func(p *lib.Parts, _ []heap.Cell, f []heap.Field) []heap.Field { p.Counter = -1; return f }, 63, 1, api.ErrArg},
		{func(p *lib.Parts, _ []heap.Cell, f []heap.Field) []heap.Field { p.Counter = -1; return f }, 64, 1, api.ErrArg},
		{func(p *lib.Parts, _ []heap.Cell, f []heap.Field) []heap.Field { p.Counter = 5; return f }, 64, 1, api.OK},
		{func(p *lib.Parts, _ []heap.Cell, f []heap.Field) []heap.Field { p.Numbers = nil; return f }, 64, 1, api.ErrArg},
		{func(p *lib.Parts, _ []heap.Cell, f []heap.Field) []heap.Field { p.Numbers = []int{1, 0}; return f }, 64, 1, api.ErrArg},
		{func(p *lib.Parts, _ []heap.Cell, f []heap.Field) []heap.Field { p.Numbers = []int{1}; return f }, 64, 1, api.ErrArg},
		{func(p *lib.Parts, _ []heap.Cell, f []heap.Field) []heap.Field { p.Numbers = []int{0, 0}; return f }, 64, 1, api.ErrArg},
		{func(p *lib.Parts, _ []heap.Cell, f []heap.Field) []heap.Field { p.Numbers = []int{0, 2}; return f }, 64, 1, api.ErrArg},
		{func(p *lib.Parts, _ []heap.Cell, f []heap.Field) []heap.Field { p.Numbers = []int{-1, 0}; return f }, 64, 1, api.ErrArg},
		{func(p *lib.Parts, _ []heap.Cell, f []heap.Field) []heap.Field { return f[:6] }, 63, 1, api.ErrArg},
		{func(p *lib.Parts, _ []heap.Cell, f []heap.Field) []heap.Field { return f[:6] }, 64, 1, api.ErrArg},
		{func(p *lib.Parts, _ []heap.Cell, f []heap.Field) []heap.Field { p.Words = []heap.Word{7}; return f }, 64, 1, api.OK},
		{func(_ *lib.Parts, cells []heap.Cell, f []heap.Field) []heap.Field { cells[0].Kind = 99; return f }, 64, 1, api.ErrArg},
		{func(_ *lib.Parts, _ []heap.Cell, f []heap.Field) []heap.Field { f[1].Object = 7; return f }, 64, 1, heap.ErrWord},
		{func(_ *lib.Parts, cells []heap.Cell, f []heap.Field) []heap.Field {
			cells[1].Bytes = strings.Repeat("A", 500)
			return f
		}, 64, 1, api.ErrWords},
		{func(_ *lib.Parts, cells []heap.Cell, f []heap.Field) []heap.Field { cells[1].Bytes = "B"; return f }, 64, 1, lib.ErrNoSymbol},
		{func(_ *lib.Parts, cells []heap.Cell, f []heap.Field) []heap.Field { cells[0].Bytes = "B"; return f }, 64, 1, lib.ErrNoSymbol},
		{func(_ *lib.Parts, cells []heap.Cell, f []heap.Field) []heap.Field {
			cells[1].Kind = heap.KindBits
			return f
		}, 64, 1, lib.ErrNoSymbol},
		{func(_ *lib.Parts, cells []heap.Cell, f []heap.Field) []heap.Field {
			cells[2] = symbolCell(heap.KindCons, 1)
			return f
		}, 64, 1, lib.ErrNoSymbol},
		{func(_ *lib.Parts, cells []heap.Cell, f []heap.Field) []heap.Field {
			cells[2] = symbolCell(heap.KindSymbol, 2)
			return f
		}, 64, 1, lib.ErrNoSymbol},
		{func(_ *lib.Parts, cells []heap.Cell, f []heap.Field) []heap.Field {
			cells[2].Fields = cells[2].Fields[:1]
			return f
		}, 64, 1, lib.ErrNoSymbol},
		{func(_ *lib.Parts, cells []heap.Cell, f []heap.Field) []heap.Field {
			cells[2] = heap.Cell{Kind: heap.KindSymbol, Raw: true}
			return f
		}, 64, 1, lib.ErrNoSymbol},
		{func(_ *lib.Parts, _ []heap.Cell, f []heap.Field) []heap.Field { f[0].Object = 2; return f }, 64, 1, lib.ErrNoSymbol},
		{func(_ *lib.Parts, _ []heap.Cell, f []heap.Field) []heap.Field { f[1].Object = -2; return f }, 64, 1, lib.ErrNoSymbol},
		{func(_ *lib.Parts, _ []heap.Cell, f []heap.Field) []heap.Field {
			f[1] = heap.Field{Object: -1, Word: fix(1)}
			return f
		}, 64, 1, lib.ErrNoSymbol},
		{func(_ *lib.Parts, _ []heap.Cell, f []heap.Field) []heap.Field { f[2].Word = fix(1); return f }, 64, 1, lib.ErrNoSymbol},
		{func(_ *lib.Parts, _ []heap.Cell, f []heap.Field) []heap.Field { f[3] = f[2]; return f }, 64, 1, lib.ErrNoSymbol},
	} {
		p, cells, fields := right()
		if c.change != nil {
			fields = c.change(&p, cells, fields)
		}
		w, words, e := lib.Restore(c.limit, c.young, p, cells, fields)
		if e != c.e || (w == nil) != (e != api.OK) || len(words) > 0 {
			t.Errorf("%d: Restore: %v; want %v", i, e, c.e)
		}
		if e == api.OK && (state(t, w) == "" || symbol(t, w, "CL-USER", "A") == 0 || w.Parts().Counter != p.Counter) {
			t.Errorf("%d: the world is not restored", i)
		}
	}
	// T is made when it is needed.
	p, cells, fields := right()
	w, _, _ := lib.Restore(1000, 1, p, cells, fields)
	tr := lisp(t, w, "T")
	if e := w.SetValue(tr, fix(1)); e != api.ErrArg {
		t.Errorf("SetValue of T: %v", e)
	}
	if v, _ := w.Value(tr); v != heap.Unbound {
		t.Errorf("the value of T is %v", v)
	}
}
