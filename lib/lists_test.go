package lib_test

import (
	"testing"

	"commonform/heap"
)

func TestConses(t *testing.T) {
	check(t, newWorld(t), []row{
		{"(cons 1 2)", "(1 . 2)"},
		{"(cons 1 (2))", "(1 2)"},
		{"(car (1 . 2))", "1"}, {"(cdr (1 . 2))", "2"}, {"(car nil)", "nil"}, {"(cdr nil)", "nil"},
		{"(car 1)", "! TYPE-ERROR 1 list"}, {"(cdr \"a\")", "! TYPE-ERROR \"a\" list"}, {"(car t)", "! TYPE-ERROR t list"},
		{"(rplaca (1 . 2) 3)", "(3 . 2)"}, {"(rplacd (1 . 2) 3)", "(1 . 3)"}, {"(rplaca nil 3)", "! TYPE-ERROR nil cons"}, {"(rplacd 5 3)", "! TYPE-ERROR 5 cons"},
		{"(list)", "nil"}, {"(list 1 2 3)", "(1 2 3)"},
		{"(list* 1)", "1"}, {"(list* 1 2)", "(1 . 2)"}, {"(list* 1 2 (3))", "(1 2 3)"}, {"(list*)", "! PROGRAM-ERROR list*"},
		{"(consp (1))", "t"}, {"(consp nil)", "nil"}, {"(consp 1)", "nil"},
		{"(atom (1))", "nil"}, {"(atom nil)", "t"}, {"(atom #(1))", "t"},
		{"(listp (1 . 2))", "t"}, {"(listp nil)", "t"}, {"(listp 1)", "nil"},
		{"(null nil)", "t"}, {"(null 0)", "nil"}, {"(not nil)", "t"}, {"(not (1))", "nil"},
		{"(append)", "nil"}, {"(append 5)", "5"}, {"(append nil)", "nil"}, {"(append (1 2) nil (3) 4)", "(1 2 3 . 4)"}, {"(append nil nil)", "nil"}, {"(append nil 5)", "5"},
		{"(append 5 nil)", "! TYPE-ERROR 5 list"}, {"(append (1) (2 . 3) 4 nil)", "! TYPE-ERROR (2 . 3) list"}, {"(append #1=(1 . #1#) nil)", "! TYPE-ERROR #0=(1 . #0#) list"},
		{"(reverse (1 2 3))", "(3 2 1)"}, {"(reverse nil)", "nil"}, {"(reverse (1 . 2))", "! TYPE-ERROR (1 . 2) list"},
		{"(nth 0 (1 2))", "1"}, {"(nth 1 (1 2))", "2"}, {"(nth 2 (1 2))", "nil"}, {"(nth 70 nil)", "nil"}, {"(nth 1 (1 . 2))", "! TYPE-ERROR 2 list"}, {"(nth 2 (1 . 2))", "! TYPE-ERROR 2 list"}, {"(nth -1 (1))", "! TYPE-ERROR -1 unsigned-byte"}, {"(nth 1.0 (1))", "! TYPE-ERROR 1.0 unsigned-byte"},
		{"(nthcdr 0 (1 2))", "(1 2)"}, {"(nthcdr 0 nil)", "nil"}, {"(nthcdr 1 (1 2))", "(2)"}, {"(nthcdr 1 (1 . 2))", "2"}, {"(nthcdr 2 (1 . 2))", "! TYPE-ERROR 2 list"}, {"(nthcdr 1180591620717411303424 (1 2))", "nil"}, {"(nthcdr -1180591620717411303424 (1 2))", "! TYPE-ERROR -1180591620717411303424 unsigned-byte"},
		{"(nth 9999 #1=(1 2 . #1#))", "2"}, {"(nth 10000 #1=(1 2 . #1#))", "1"}, {"(nth 10001 #1=(1 2 . #1#))", "1"}, {"(nth 1180591620717411303425 #1=(1 2 . #1#))", "1"},
		{"(last (1 2 3))", "(3)"}, {"(last (1 2 . 3))", "(2 . 3)"}, {"(last nil)", "nil"}, {"(last #1=(1 . #1#))", "! TYPE-ERROR #0=(1 . #0#) list"}, {"(last (1 2 3 4 5 . #1=(6 7 . #1#)))", "! TYPE-ERROR (1 2 3 4 5 . #0=(6 7 . #0#)) list"}, {"(last 5)", "! TYPE-ERROR 5 list"},
		{"(length nil)", "0"}, {"(length (1 2))", "2"}, {"(length \"aé\")", "2"}, {"(length #*011)", "3"}, {"(length #(1 2))", "2"}, {"(length #2a((1)))", "! TYPE-ERROR #2A((1)) sequence"}, {"(length (1 . 2))", "! TYPE-ERROR (1 . 2) sequence"}, {"(length #1=(1 2 3 . #1#))", "! TYPE-ERROR #0=(1 2 3 . #0#) sequence"}, {"(length 5)", "! TYPE-ERROR 5 sequence"},
		{"(member 2 (1 2 3))", "(2 3)"}, {"(member 4 (1 2 3))", "nil"}, {"(member 1.0 (1 1.0))", "(1.0)"}, {"(member 1180591620717411303424 (1180591620717411303424))", "(1180591620717411303424)"}, {"(member \"a\" (\"a\"))", "nil"}, {"(member 1 (1 . 2))", "! TYPE-ERROR (1 . 2) list"}, {"(member nil (nil))", "(nil)"},
		{"(assoc b ((a . 1) nil (b . 2)))", "(b . 2)"}, {"(assoc nil (nil (nil . 1)))", "(nil . 1)"}, {"(assoc c ((a . 1)))", "nil"}, {"(assoc a ((a . 1) 5))", "(a . 1)"}, {"(assoc b ((a . 1) 5 (b . 2)))", "! TYPE-ERROR 5 list"}, {"(assoc b 5)", "! TYPE-ERROR 5 list"},
		{"(copy-list (1 (2)))", "(1 (2))"}, {"(copy-list nil)", "nil"}, {"(copy-list (1 . 2))", "! TYPE-ERROR (1 . 2) list"},
	})
}

// What is new, what is shared, and what is changed.
func TestConsIdentity(t *testing.T) {
	w := newWorld(t)
	l := object(t, w, "(1 2 3)")
	set(t, w, "L", l)
	for _, c := range []struct {
		call string
		same bool
	}{
		{"(rplaca $l 1)", true}, {"(rplacd $l 5)", true}, {"(append $l)", true}, {"(append nil $l)", true}, {"(nthcdr 0 $l)", true}, {"(list* $l)", true}, {"(last $l)", true}, {"(identity $l)", true},
	} {
		if got := call(t, w, c.call).Values[0] == l; got != c.same {
			t.Errorf("%s is the same: %v", c.call, got)
		}
	}
	l = object(t, w, "(1 2 3)")
	set(t, w, "L", l)
	for _, s := range []string{"(append $l nil)", "(reverse $l)", "(copy-list $l)", "(subseq $l 0)", "(list $l)", "(cons 1 $l)"} {
		if call(t, w, s).Values[0] == l {
			t.Errorf("%s is the list itself", s)
		}
	}
	tail, _ := w.Heap().Get(l, 1)
	for _, s := range []string{"(cdr $l)", "(nthcdr 1 $l)", "(member 2 $l)"} {
		if call(t, w, s).Values[0] != tail {
			t.Errorf("%s is not the tail of the list", s)
		}
	}
	if shown(w, l) != "(1 2 3)" {
		t.Errorf("the list has become %s", shown(w, l))
	}
	call(t, w, "(rplaca $l 7)")
	call(t, w, "(rplacd $l nil)")
	if shown(w, l) != "(7)" {
		t.Errorf("the list has become %s", shown(w, l))
	}
	if shown(w, tail) != "(2 3)" {
		t.Errorf("its old tail has become %s", shown(w, tail))
	}
}

func TestSamenessAndKinds(t *testing.T) {
	w := newWorld(t)
	set(t, w, "H", call(t, w, "(make-hash-table eq)").Values[0])
	set(t, w, "F", making(t, w, heap.KindClosure, heap.Nil, heap.Nil))
	set(t, w, "C", making(t, w, heap.KindCode))
	f, _ := w.Function(lisp(t, w, "CAR"))
	set(t, w, "B", f)
	check(t, w, []row{
		{"(eq a a)", "t"}, {"(eq a b)", "nil"}, {"(eq 1 1)", "t"}, {"(eq 1.0 1.0)", "nil"}, {"(eq \"a\" \"a\")", "nil"}, {"(eq $h $h)", "t"},
		{"(eql 1.0 1.0)", "t"}, {"(eql 1 1.0)", "nil"}, {"(eql \"a\" \"a\")", "nil"}, {"(eql #c(1 2) #c(1 2))", "t"},
		{"(equal \"a\" \"a\")", "t"}, {"(equal (1 (2)) (1 (2)))", "t"}, {"(equal #(1) #(1))", "nil"}, {"(equal 1 1.0)", "nil"}, {"(equal \"a\" \"A\")", "nil"},
		{"(equalp \"a\" \"A\")", "t"}, {"(equalp #(1) #(1.0))", "t"}, {"(equalp a b)", "nil"}, {"(equalp #1=(1 . #1#) #2=(1 1 . #2#))", "t"},
	})
	kinds := []string{"SYMBOLP", "KEYWORDP", "NUMBERP", "INTEGERP", "RATIONALP", "REALP", "FLOATP", "COMPLEXP", "CHARACTERP", "STRINGP", "BIT-VECTOR-P", "VECTORP", "ARRAYP", "FUNCTIONP", "HASH-TABLE-P", "CONSP"}
	for _, c := range []struct{ x, of string }{
		{"a", "SYMBOLP"}, {"nil", "SYMBOLP"}, {"#:a", "SYMBOLP"}, {":a", "SYMBOLP KEYWORDP"},
		{"5", "NUMBERP INTEGERP RATIONALP REALP"}, {"1180591620717411303424", "NUMBERP INTEGERP RATIONALP REALP"}, {"1/2", "NUMBERP RATIONALP REALP"}, {"1.5", "NUMBERP REALP FLOATP"}, {"1d0", "NUMBERP REALP FLOATP"}, {"#c(1 2)", "NUMBERP COMPLEXP"},
		{"#\\a", "CHARACTERP"}, {"\"\"", "STRINGP VECTORP ARRAYP"}, {"#*", "BIT-VECTOR-P VECTORP ARRAYP"}, {"#()", "VECTORP ARRAYP"}, {"#2a()", "ARRAYP"}, {"#0a5", "ARRAYP"},
		{"$h", "HASH-TABLE-P"}, {"$f", "FUNCTIONP"}, {"$c", "FUNCTIONP"}, {"$b", "FUNCTIONP"}, {"(1)", "CONSP"}, {"$nothing", ""},
	} {
		of := map[string]bool{}
		for _, name := range kinds {
			of[name] = false
		}
		for rest := c.of; rest != ""; {
			name := rest
			for i := range rest {
				if rest[i] == ' ' {
					name = rest[:i]
					break
				}
			}
			of[name] = true
			rest = rest[min(len(name)+1, len(rest)):]
		}
		for name, is := range of {
			want := map[bool]string{true: "t", false: "nil"}[is]
			if got := told(w, call(t, w, "("+name+" "+c.x+")")); got != want {
				t.Errorf("(%s %s) is %s; want %s", name, c.x, got, want)
			}
		}
	}
}
