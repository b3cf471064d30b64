package lib_test

import (
	"strconv"
	"strings"
	"testing"

	"commonform/api"
	"commonform/heap"
	"commonform/lib"
)

func TestSymbolFunctions(t *testing.T) {
	w := newWorld(t)
	set(t, w, "F", making(t, w, heap.KindClosure, heap.Nil, heap.Nil))
	w.SetFunction(symbol(t, w, "COMMON-LISP-USER", "FUN"), heap.Nil)
	check(t, w, []row{
		{"(symbol-name car)", "\"CAR\""}, {"(symbol-name #:x)", "\"X\""}, {"(symbol-name 5)", "! TYPE-ERROR 5 symbol"}, {"(symbol-name nil)", "\"NIL\""},
		{"(symbol-package car)", "\"COMMON-LISP\""}, {"(symbol-package x)", "\"COMMON-LISP-USER\""}, {"(symbol-package :k)", "\"KEYWORD\""}, {"(symbol-package #:x)", "nil"},
		{"(symbol-value nil)", "nil"}, {"(symbol-value t)", "t"}, {"(symbol-value :k)", ":k"}, {"(symbol-value x)", "! UNBOUND-VARIABLE x"}, {"(boundp x)", "nil"},
		{"(set x 5)", "5"}, {"(symbol-value x)", "5"}, {"(boundp x)", "t"}, {"(makunbound x)", "x"}, {"(boundp x)", "nil"}, {"(symbol-value x)", "! UNBOUND-VARIABLE x"}, {"(makunbound x)", "x"},
		{"(set nil 5)", "! PROGRAM-ERROR nil"}, {"(set t t)", "! PROGRAM-ERROR t"}, {"(set :k :k)", "! PROGRAM-ERROR :k"}, {"(makunbound nil)", "! PROGRAM-ERROR nil"}, {"(makunbound :k)", "! PROGRAM-ERROR :k"}, {"(boundp :k)", "t"}, {"(boundp nil)", "t"}, {"(set 5 5)", "! TYPE-ERROR 5 symbol"},
		{"(symbol-function car)", "%::builtin"}, {"(symbol-function x)", "! UNDEFINED-FUNCTION x"}, {"(fboundp car)", "t"}, {"(fboundp x)", "nil"},
		{"(%fset x car)", "%::builtin"}, {"(fboundp x)", "t"}, {"(x (1 2))", "1"}, {"(%fset y $f)", "%::closure"}, {"(y 1)", "> %::closure 1"}, {"(%fset x nope)", "! UNDEFINED-FUNCTION nope"}, {"(%fset x 5)", "! TYPE-ERROR 5 function"}, {"(%fset 5 car)", "! TYPE-ERROR 5 symbol"}, {"(%fset t car)", "%::builtin"}, {"(t (1))", "1"}, {"(fmakunbound t)", "t"},
		{"(fmakunbound x)", "x"}, {"(fboundp x)", "nil"}, {"(fmakunbound x)", "x"}, {"(x 1)", "! UNDEFINED-FUNCTION x"}, {"(fmakunbound nil)", "nil"},
		{"(symbol-plist x)", "nil"}, {"(%set-plist x (a 1))", "(a 1)"}, {"(symbol-plist x)", "(a 1)"}, {"(symbol-plist y)", "nil"}, {"(%set-plist nil 7)", "7"}, {"(symbol-plist nil)", "7"},
		{"(fun 1)", "! TYPE-ERROR nil function"},
	})
}

func TestPackages(t *testing.T) {
	w := newWorld(t)
	w.Symbols().Make("P", []string{"PP"}, []string{"COMMON-LISP"})
	long := strings.Repeat("X", api.MaxName+1)
	check(t, w, []row{
		{"(find-symbol \"NEW\")", "nil nil"}, {"(intern \"NEW\")", "new nil"}, {"(intern \"NEW\")", "new :internal"}, {"(find-symbol \"NEW\")", "new :internal"}, {"(find-symbol \"new\")", "nil nil"},
		{"(intern \"CAR\")", "car :inherited"}, {"(intern \"CAR\" \"COMMON-LISP\")", "car :external"}, {"(intern \"CAR\" \"CL\")", "car :external"}, {"(find-symbol \"CAR\" \"P\")", "car :inherited"},
		{"(intern \"NEW\" \"P\")", "p::new nil"}, {"(intern \"NEW\" \"PP\")", "p::new :internal"}, {"(intern \"K\" \"KEYWORD\")", ":k nil"}, {"(intern \"K\" \"KEYWORD\")", ":k :external"}, {"(symbol-value :k)", ":k"}, {"(intern \"\")", "|| nil"},
		{"(intern \"X\" \"Q\")", "! PACKAGE-ERROR \"Q\""}, {"(find-symbol \"X\" \"Q\")", "! PACKAGE-ERROR \"Q\""}, {"(intern \"" + long + "\")", "! PACKAGE-ERROR \"COMMON-LISP-USER\""}, {"(find-symbol \"" + long + "\")", "! PACKAGE-ERROR \"COMMON-LISP-USER\""}, {"(intern \"" + long + "\" \"P\")", "! PACKAGE-ERROR \"P\""},
		{"(intern x)", "! TYPE-ERROR x string"}, {"(intern \"X\" p)", "! TYPE-ERROR p string"}, {"(intern)", "! PROGRAM-ERROR intern"}, {"(find-symbol \"NIL\")", "nil :inherited"},
		{"(make-symbol \"X\")", "#:x"}, {"(make-symbol \"" + long + "\")", "! PACKAGE-ERROR \"" + long + "\""}, {"(make-symbol x)", "! TYPE-ERROR x string"},
		{"(gensym)", "#:g0"}, {"(gensym \"V\")", "#:v1"}, {"(gensym \"\")", "#:|2|"}, {"(gensym \"" + long + "\")", "! PACKAGE-ERROR \"" + long + "\""}, {"(gensym \"" + long[2:] + "\")", "#:" + strings.ToLower(long[2:]) + "3"}, {"(gensym \"" + long[1:] + "\")", "! PACKAGE-ERROR \"" + long[1:] + "\""}, {"(gensym 5)", "! TYPE-ERROR 5 string"}, {"(gensym \"W\")", "#:w4"},
	})
	if p := w.Parts(); p.Counter != 5 {
		t.Errorf("the counter is %d; want 5", p.Counter)
	}
	// P20.6: twice the same symbol, and never one that was there.
	a, b := call(t, w, "(intern \"ANEW\")"), call(t, w, "(intern \"ANEW\")")
	if a.Values[0] != b.Values[0] || a.Values[0] != symbol(t, w, "COMMON-LISP-USER", "ANEW") {
		t.Error("INTERN twice makes two symbols")
	}
	met := map[heap.Word]bool{}
	for range 50 {
		for _, s := range []string{"(gensym)", "(make-symbol \"G7\")"} {
			x := call(t, w, s).Values[0]
			if met[x] {
				t.Fatalf("%s returned a symbol that was there", s)
			}
			met[x] = true
		}
	}
}

// fill interns symbols until the table has room for so many more.
func fill(t *testing.T, w *lib.World, left int) {
	t.Helper()
	n := 0
	for ; ; n++ {
		if _, _, e := w.Symbols().Symbol(n); e != api.OK {
			break
		}
	}
	for ; n < api.MaxSymbols-left; n++ {
		if _, _, e := w.Symbols().Intern("COMMON-LISP-USER", "FILL"+strconv.Itoa(n)); e != api.OK {
			t.Fatal(e)
		}
	}
}

// A full table: also the symbol of the status needs room.
func TestFullTable(t *testing.T) {
	w := newWorld(t)
	fill(t, w, 1)
	check(t, w, []row{
		{"(find-symbol \"NEW\")", "nil nil"}, {"(intern \"NEW\")", "new nil"}, {"(intern \"OTHER\")", "! PACKAGE-ERROR \"COMMON-LISP-USER\""}, {"(intern \"NEW\")", "! PACKAGE-ERROR \"COMMON-LISP-USER\""}, {"(find-symbol \"CAR\" \"CL\")", "! PACKAGE-ERROR \"CL\""}, {"(find-symbol \"OTHER\")", "nil nil"},
		{"(make-symbol \"X\")", "! PACKAGE-ERROR \"X\""}, {"(gensym)", "! PACKAGE-ERROR \"G\""}, {"(gensym \"V\")", "! PACKAGE-ERROR \"V\""},
	})
	if w.Parts().Counter != 0 {
		t.Errorf("the counter has become %d", w.Parts().Counter)
	}
	w = newWorld(t)
	fill(t, w, 0)
	check(t, w, []row{{"(find-symbol \"CAR\")", "! PACKAGE-ERROR \"COMMON-LISP-USER\""}, {"(intern \"CAR\")", "! PACKAGE-ERROR \"COMMON-LISP-USER\""}, {"(find-symbol \"NEW\")", "nil nil"}})
	w = newWorld(t)
	fill(t, w, 1)
	check(t, w, []row{{"(intern \"CAR\")", "car :inherited"}, {"(intern \"CDR\")", "cdr :inherited"}, {"(intern \"CAR\" \"CL\")", "! PACKAGE-ERROR \"CL\""}})
}
