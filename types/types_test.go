package types_test

import (
	"slices"
	"strconv"
	"strings"
	"testing"

	"commonform/api"
	"commonform/forms"
	"commonform/types"
)

func TestExamples(t *testing.T) {
	for _, c := range []struct {
		x, t string
		want bool
	}{
		{"1", "bit", true}, {"1", "(mod 2)", true}, {"1", "(integer (0) *)", true}, {"1", "(integer (1))", false},
	} {
		if is, e := types.Typep(read(t, c.x), read(t, c.t)); is != c.want || e != api.OK {
			t.Errorf("Typep(%s, %s) = %v, %v", c.x, c.t, is, e)
		}
	}
	part(t, "(integer 1 5)", "(or (integer 0 3) (integer 4 9))", true)
	part(t, "(rational 1 5)", "(or (rational 0 3) (rational 4 9))", false)
	part(t, "(cons bit bit)", "(or (cons (eql 0)) (cons * (eql 1)) (cons (eql 1) (eql 0)))", true)
	if is, x, e := types.Empty(read(t, "(and integer (not fixnum) (integer 0 100))")); !is || e != api.OK || x.Kind != 0 {
		t.Errorf("Empty = %v, %s, %v", is, text(x), e)
	}
}

// part checks whether a type is a part of another one, and the witness if it is not.
func part(t *testing.T, a, b string, want bool) {
	t.Helper()
	x, y := read(t, a), read(t, b)
	is, w, e := types.Subtypep(x, y)
	switch {
	case is != want || e != api.OK:
		t.Errorf("Subtypep(%s, %s) = %v, %s, %v", a, b, is, text(w), e)
	case is && w.Kind != 0:
		t.Errorf("Subtypep(%s, %s) has the witness %s", a, b, text(w))
	case !is && (forms.Check(w) != api.OK || !isOf(w, x) || isOf(w, y)):
		t.Errorf("Subtypep(%s, %s) has the wrong witness %s", a, b, text(w))
	}
}

func TestCheck(t *testing.T) {
	for _, s := range []string{
		"t", "nil", "(and)", "(or)", "(member)", "(and t nil)", "(or (and (not t)))", "(not nil)", "(member nil t a :b x::c 1 -1/2 1.0 1.0d0 #C(1 2) #\\a)", "(eql nil)", "(eql *)", "(integer)", "(integer *)", "(integer * *)", "(integer 5 1)", "(integer (1) (2))", "(rational 1/2 (3))", "(real 1.0 2)", "(float 1 2.0d0)", "(single-float 1/3 (1.0d0))", "(double-float)", "(unsigned-byte 1)", "(unsigned-byte 200)", "(signed-byte 200)", "(mod 1)", "(mod 1000000000)",
		"(cons)", "(cons *)", "(cons * *)", "(cons bit)", "(cons * bit)", "(cons (cons (cons (cons cons))))", "(cons * (cons * (cons * (cons * list))))", "(string *)", "(string 0)", "(string 50)", "(bit-vector 3)", "(simple-vector 3)", "(vector * *)", "(vector * 50)", "(array * *)", "(array * 0)", "(array * 4)", "(array * nil)", "(array * (*))", "(array * (4))", "(array * (1 * 0 4))",
	} {
		if e := types.Check(read(t, s)); e != api.OK {
			t.Errorf("Check(%s): %v", s, e)
		}
	}
	for _, s := range allNames {
		if e := types.Check(name(s)); e != api.OK {
			t.Errorf("Check(%s): %v", s, e)
		}
	}
	for _, s := range []string{
		"1", "\"t\"", "#\\a", "#(integer)", "*", "foo", "x::integer", ":t", "#:t", "and", "mod", "signed-byte", "eql", "member", "not", "values", "(t)", "(nil)", "(list)", "(number)", "(bit)", "(fixnum)", "(character)", "(atom)", "(function)", "(1 2)", "((integer) 1)", "(x::integer 1)", "(#:integer 1)", "(integer . 1)", "(integer 1 . 2)", "(and t . t)",
		"(not)", "(not t t)", "(not 1)", "(and 1)", "(or t foo)", "(eql)", "(eql 1 2)", "(eql \"a\")", "(eql (a))", "(member #())", "(member #:a)", "(member %::builtin)", "(member 1 #*01)", "(member (1))",
		"(integer 1 2 3)", "(integer 1.0)", "(integer 1/2)", "(integer (1.0))", "(integer ())", "(integer (1 2))", "(integer ((1)))", "(integer (*))", "(integer a)", "(integer x::*)", "(integer :*)", "(integer (1 . 2))", "(integer \"1\")", "(rational 1.0)", "(rational (0.5d0))", "(real #C(1 2))", "(float a)", "(real (a))", "(ratio 1)",
		"(unsigned-byte)", "(unsigned-byte *)", "(unsigned-byte 0)", "(unsigned-byte 201)", "(unsigned-byte 8 8)", "(unsigned-byte 1.0)", "(signed-byte 0)", "(signed-byte 201)", "(signed-byte -1)", "(mod 0)", "(mod 1000000001)", "(mod *)", "(mod)", "(mod 99999999999999999999999)", "(mod (5))",
		"(cons t t t)", "(cons 1)", "(cons foo)", "(cons . t)", "(cons (cons (cons (cons (cons)))))", "(cons * (cons * (cons * (cons * (cons)))))", "(cons (cons (cons (cons (not (or (cons bit)))))))",
		"(string)", "(string -1)", "(string 51)", "(string 1 2)", "(string a)", "(string (1))", "(string 1.0)", "(bit-vector 51)", "(simple-vector)", "(vector)", "(vector *)", "(vector t 1)", "(vector * 51)", "(vector * 1 1)", "(vector 1 *)", "(array)", "(array *)", "(array t *)", "(array * 5)", "(array * -1)", "(array * (5))", "(array * (* * * * *))", "(array * (1 . 2))", "(array * (1 (2)))", "(array * (a))", "(array * t)", "(array * 1 1)",
		"#1=(or #1# t)", "#1=t", "(or #1=(integer 1) #1#)", "(eql #1=5)",
	} {
		if e := types.Check(read(t, s)); e != types.ErrType {
			t.Errorf("Check(%s): %v", s, e)
		}
	}
}

func TestCheckTrees(t *testing.T) {
	integer, plus := strings.Repeat("7", 200), strings.Repeat("7", 201)
	ratio, long := strings.Repeat("3", 99)+"/1"+strings.Repeat("0", 99), strings.Repeat("3", 100)+"/1"+strings.Repeat("0", 100)
	parts := func(n int) []api.Form { return slices.Repeat([]api.Form{name("T")}, n) }
	for i, c := range []struct {
		t    api.Form
		want api.Errno
	}{
		{call("EQL", node(api.FormInt, integer)), api.OK}, {call("EQL", node(api.FormInt, plus)), types.ErrType}, {call("INTEGER", node(api.FormInt, integer)), api.OK}, {call("INTEGER", node(api.FormInt, plus)), types.ErrType}, {call("REAL", node(api.FormRatio, ratio)), api.OK}, {call("REAL", node(api.FormRatio, long)), types.ErrType}, {call("REAL", forms.List([]api.Form{node(api.FormRatio, long)})), types.ErrType},
		{call("EQL", node(api.FormComplex, "", node(api.FormInt, integer), node(api.FormInt, integer))), api.OK}, {call("EQL", node(api.FormComplex, "", num(1), node(api.FormInt, plus))), types.ErrType}, {call("EQL", node(api.FormSingle, "7f800000")), types.ErrType}, {call("REAL", node(api.FormDouble, "7ff0000000000000")), types.ErrType}, {call("EQL", node(api.FormRatio, "1000000000000000000/2000000000000000000")), types.ErrType}, {call("EQL", node(api.FormRatio, "2/4")), types.ErrType},
		{call("AND", parts(97)...), api.OK}, {call("AND", parts(98)...), types.ErrType}, {call("MEMBER", slices.Repeat([]api.Form{num(1)}, 97)...), api.OK}, {call("OR", parts(3000)...), types.ErrType},
		{api.Form{}, types.ErrType}, {node(99, "T"), types.ErrType}, {api.Form{Kind: api.FormSymbol, Text: "T", Home: "COMMON-LISP", Kids: []api.Form{num(1)}}, types.ErrType}, {node(api.FormCons, ""), types.ErrType}, {node(api.FormCons, "", forms.Nil()), types.ErrType}, {node(api.FormCons, "x", name("OR"), forms.Nil()), types.ErrType}, {node(api.FormCons, "", name("AND"), node(api.FormCons, "", name("T"), forms.Nil())), types.ErrType}, {node(api.FormLabel, "0", name("T")), types.ErrType}, {node(api.FormRef, "0"), types.ErrType}, {call("EQL", api.Form{Kind: api.FormSymbol, Text: "\xff", Home: "P"}), types.ErrType},
	} {
		if e := types.Check(c.t); e != c.want {
			t.Errorf("%d: Check: %v; expected %v", i, e, c.want)
		}
	}
	deep := name("T")
	for range 48 {
		deep = call("NOT", deep)
	}
	if e := types.Check(deep); e != types.ErrType { // 1 + 48 * 3 nodes
		t.Errorf("Check of a deep type: %v", e)
	}
}

// Every function returns the error of its first argument that has one, and zero values with it.
func TestErrors(t *testing.T) {
	good, bad, x := name("T"), name("FOO"), num(1)
	check := func(what string, got, want api.Errno, isZero bool) {
		t.Helper()
		if got != want || !isZero {
			t.Errorf("%s: %v; expected %v", what, got, want)
		}
	}
	zero := func(f api.Form) bool { return f.Kind == 0 && f.Text == "" && f.Home == "" && len(f.Kids) == 0 }
	label := node(api.FormLabel, "0", node(api.FormString, ""))
	for i, c := range []struct {
		x    api.Form
		want api.Errno
	}{
		{api.Form{}, api.ErrForm}, {node(api.FormInt, "01"), api.ErrForm}, {label, api.ErrForm}, {forms.List([]api.Form{label, node(api.FormRef, "0")}), api.ErrForm}, {node(api.FormRef, "0"), forms.ErrLabel}, {node(api.FormVector, "", label, label), api.ErrTwice}, {node(api.FormVector, "", slices.Repeat([]api.Form{x}, 2000)...), api.ErrSize}, {node(api.FormSingle, "7f800000"), api.ErrForm}, {node(api.FormVector, "", node(api.FormDouble, "fff8000000000000")), api.ErrForm}, {node(api.FormInt, strings.Repeat("1", 20001)), api.ErrForm}, {node(api.FormComplex, "", node(api.FormSingle, "7f800000"), node(api.FormSingle, "00000000")), api.ErrForm},
	} {
		is, e := types.Typep(c.x, bad)
		of, d := types.Of(c.x)
		check("Typep "+strconv.Itoa(i), e, c.want, !is)
		check("Of "+strconv.Itoa(i), d, c.want, zero(of))
	}
	is, e := types.Typep(x, bad)
	check("Typep", e, types.ErrType, !is)
	for _, c := range [][2]api.Form{{good, bad}, {bad, good}, {bad, bad}} {
		is, w, e := types.Subtypep(c[0], c[1])
		check("Subtypep", e, types.ErrType, !is && zero(w))
		w, e = types.Plus(c[0], c[1])
		check("Plus", e, types.ErrType, zero(w))
		w, e = types.Times(c[0], c[1])
		check("Times", e, types.ErrType, zero(w))
		l, e := types.Samples(c[:])
		check("Samples", e, types.ErrType, l == nil)
	}
	is, w, e := types.Empty(bad)
	check("Empty", e, types.ErrType, !is && zero(w))
	is, low, high, e := types.Integers(bad)
	check("Integers", e, types.ErrType, !is && zero(low) && zero(high))
	l, e := types.Samples(slices.Repeat([]api.Form{bad}, 7))
	check("Samples of 7", e, api.ErrSize, l == nil)
	l, e = types.Samples(slices.Repeat([]api.Form{good}, 6))
	check("Samples of 6", e, api.OK, len(l) == 1)
}

// P1: no form makes a function panic.
func TestAnything(t *testing.T) {
	odd := []api.Form{{}, node(api.FormCons, ""), node(api.FormCons, "", name("CONS")), node(api.FormCons, "", name("EQL"), node(api.FormCons, ""), forms.Nil()), node(-1, ""), node(api.FormArray, "9 9"), node(api.FormArray, "", forms.Nil()), node(api.FormSymbol, "NIL", forms.Nil()), node(api.FormComplex, ""), call("INTEGER", node(api.FormInt, "")), call("REAL", node(api.FormSingle, "")), call("ARRAY", name("*"), node(api.FormCons, ""))}
	for _, x := range odd {
		for _, y := range odd {
			types.Check(x)
			types.Typep(x, y)
			types.Subtypep(x, y)
			types.Empty(x)
			types.Samples([]api.Form{x, y})
			types.Of(x)
			types.Integers(x)
			types.Plus(x, y)
			types.Times(x, y)
			types.Not(types.And([]api.Form{types.Or([]api.Form{x, y})}))
		}
	}
}

func TestConnectives(t *testing.T) {
	x := read(t, "(integer 1)")
	for what, c := range map[string]struct{ got api.Form }{
		"(and (integer 1) nil)": {types.And([]api.Form{x, forms.Nil()})}, "(or (integer 1))": {types.Or([]api.Form{x})}, "(and)": {types.And(nil)}, "(or)": {types.Or(nil)}, "(not (integer 1))": {types.Not(x)},
	} {
		if !forms.Equal(c.got, read(t, what)) {
			t.Errorf("%s; expected %s", text(c.got), what)
		}
	}
	not, and := types.Not(x), types.And([]api.Form{x, x})
	not.Kids[1].Kids[1].Text, and.Kids[1].Kids[1].Text = "7", "8"
	if x.Kids[1].Text != "1" || and.Kids[2].Kids[1].Text != "1" {
		t.Error("memory is shared")
	}
	strange := types.Or([]api.Form{{}, node(99, "x")})
	if len(strange.Kids) != 4 || strange.Kids[2].Kind != 99 {
		t.Error("Or does not take any forms")
	}
}

func TestOf(t *testing.T) {
	for x, want := range map[string]string{
		"a": "(eql a)", "nil": "(eql nil)", ":a": "(eql :a)", "x::a": "(eql x::a)", "#:a": "symbol", "5": "(eql 5)", "-1/2": "(eql -1/2)", "1.5": "(eql 1.5)", "1.5d0": "(eql 1.5d0)", "#C(1 2)": "(eql #C(1 2))", "#\\a": "(eql #\\a)", "%::builtin": "function", "%::closure": "function", "%::table": "hash-table", "%::unbound": "atom", "%::|closure|": "atom",
		`"ab"`: "(string 2)", `"éa"`: "(string 2)", `""`: "(string 0)", "#*011": "(bit-vector 3)", "#(1 2)": "(simple-vector 2)", "#2A((1 2))": "(array * (1 2))", "#0A5": "(array * nil)", "#4A((((1))))": "(array * (1 1 1 1))", "#5A(((((1)))))": "array", "#2A((1 2 3 4 5))": "array",
		"(1 . 2)": "(cons (eql 1) (eql 2))", "(1 a)": "(cons (eql 1) (cons (eql a) (eql nil)))", "(1 2 3 4)": "(cons (eql 1) (cons (eql 2) (cons (eql 3) (cons (eql 4) (eql nil)))))", "(1 2 3 4 5)": "(cons (eql 1) (cons (eql 2) (cons (eql 3) (cons (eql 4) cons))))", "((((1 . 2) . 3) . 4) . 5)": "(cons (cons (cons (cons (eql 1) (eql 2)) (eql 3)) (eql 4)) (eql 5))", "(((((1)))))": "(cons (cons (cons (cons cons (eql nil)) (eql nil)) (eql nil)) (eql nil))", `(#:a . "x")`: "(cons symbol (string 1))",
	} {
		got, e := types.Of(read(t, x))
		if e != api.OK || !forms.Equal(got, read(t, want)) {
			t.Errorf("Of(%s) = %s, %v; expected %s", x, text(got), e, want)
		}
	}
	for i, c := range []struct {
		x    api.Form
		want string
	}{
		{node(api.FormString, strings.Repeat("é", 50)), "(string 50)"}, {node(api.FormString, strings.Repeat("a", 51)), "string"}, {node(api.FormBits, strings.Repeat("0", 51)), "bit-vector"}, {node(api.FormVector, "", slices.Repeat([]api.Form{num(1)}, 51)...), "simple-vector"}, {node(api.FormArray, "0 5"), "array"}, {node(api.FormArray, "0 4"), "(array * (0 4))"}, {node(api.FormArray, "0 0 0 0 0"), "array"},
		{node(api.FormInt, "-"+strings.Repeat("7", 200)), "t"}, {node(api.FormComplex, "", num(1), node(api.FormInt, strings.Repeat("7", 201))), "t"}, {node(api.FormCons, "", num(1), node(api.FormInt, strings.Repeat("7", 201))), "(cons (eql 1) t)"},
	} {
		got, e := types.Of(c.x)
		if e != api.OK || !forms.Equal(got, read(t, c.want)) {
			t.Errorf("%d: Of = %s, %v; expected %s", i, text(got), e, c.want)
		}
	}
	if got, e := types.Of(node(api.FormInt, strings.Repeat("7", 200))); e != api.OK || got.Kind != api.FormCons {
		t.Errorf("Of a number with 200 digits = %s, %v", text(got), e)
	}
	// eight leaves of a tree, of which seven have ten nodes, and one nine, or ten: types of 100 and 101 nodes
	leaf := func(dims string) api.Form { return node(api.FormArray, dims) }
	pair := func(x, y api.Form) api.Form { return forms.Dotted([]api.Form{x}, y) }
	for dims, want := range map[string]int{"0 0 0": 100, "0 0 0 0": 1} {
		four := pair(pair(leaf("0 0 0 0"), leaf("0 0 0 0")), pair(leaf("0 0 0 0"), leaf("0 0 0 0")))
		of, e := types.Of(pair(four, pair(pair(leaf("0 0 0 0"), leaf("0 0 0 0")), pair(leaf("0 0 0 0"), leaf(dims)))))
		if nodes, _ := forms.Size(of); e != api.OK || nodes != want || types.Check(of) != api.OK {
			t.Errorf("Of a tree = %s, %v", text(of), e)
		}
	}
	l := read(t, "((1) 2)")
	of, _ := types.Of(l)
	of.Kids[1].Kids[1].Kids[1].Text = "9"
	if !forms.Equal(l, read(t, "((1) 2)")) {
		t.Error("memory is shared")
	}
}
