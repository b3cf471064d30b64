package lib_test

import (
	"strings"
	"testing"

	"commonform/api"
	"commonform/heap"
	"commonform/lib"
)

func TestCharactersAndStrings(t *testing.T) {
	w := newWorld(t)
	check(t, w, []row{
		{"(char-code #\\a)", "97"}, {"(char-code #\\é)", "233"}, {"(char-code 5)", "! TYPE-ERROR 5 character"},
		{"(code-char 97)", "#\\a"}, {"(code-char 0)", "#\\Null"}, {"(code-char 55296)", "nil"}, {"(code-char 1114111)", "#\\\U0010ffff"}, {"(code-char 1114112)", "nil"}, {"(code-char 4294967393)", "nil"}, {"(code-char 1180591620717411303424)", "nil"}, {"(code-char -1)", "! TYPE-ERROR -1 unsigned-byte"},
		{"(char-upcase #\\a)", "#\\A"}, {"(char-upcase #\\z)", "#\\Z"}, {"(char-upcase #\\{)", "#\\{"}, {"(char-upcase #\\`)", "#\\`"}, {"(char-upcase #\\é)", "#\\é"}, {"(char-upcase #\\A)", "#\\A"}, {"(char-downcase #\\A)", "#\\a"}, {"(char-downcase #\\Z)", "#\\z"}, {"(char-downcase #\\@)", "#\\@"}, {"(char-downcase #\\[)", "#\\["}, {"(char-downcase #\\É)", "#\\É"},
		{"(char \"aéb\" 1)", "#\\é"}, {"(char \"aéb\" 2)", "#\\b"}, {"(char \"aéb\" 3)", "! TYPE-ERROR 3 integer"}, {"(char \"\" 0)", "! TYPE-ERROR 0 integer"}, {"(char \"a\" 1180591620717411303424)", "! TYPE-ERROR 1180591620717411303424 integer"}, {"(char \"a\" -1)", "! TYPE-ERROR -1 unsigned-byte"}, {"(char a 0)", "! TYPE-ERROR a string"},
		{"(string= \"ab\" \"ab\")", "t"}, {"(string= \"ab\" \"aB\")", "nil"}, {"(string= \"ab\" \"abc\")", "nil"}, {"(string= \"ab\" ab)", "! TYPE-ERROR ab string"},
		{"(string< \"ab\" \"abc\")", "2"}, {"(string< \"abc\" \"ab\")", "nil"}, {"(string< \"ab\" \"ab\")", "nil"}, {"(string< \"aa\" \"ab\")", "1"}, {"(string< \"éa\" \"éb\")", "1"}, {"(string< \"b\" \"a\")", "nil"}, {"(string< \"\" \"\")", "nil"}, {"(string< \"\" \"a\")", "0"}, {"(string< \"az\" \"é\")", "0"},
		{"(concat)", "\"\""}, {"(concat \"a\" \"\" \"é\")", "\"aé\""}, {"(concat \"a\" 5)", "! TYPE-ERROR 5 string"},
		{"(subseq \"hello\" 1 3)", "\"el\""}, {"(subseq \"héllo\" 2)", "\"llo\""}, {"(subseq \"hello\" 5)", "\"\""}, {"(subseq \"hello\" 6)", "! TYPE-ERROR 6 integer"}, {"(subseq \"hello\" 1 5)", "\"ello\""}, {"(subseq \"hello\" 2 6)", "! TYPE-ERROR 6 integer"}, {"(subseq \"hello\" 2 1)", "! TYPE-ERROR 1 integer"}, {"(subseq \"hello\" 6 1)", "! TYPE-ERROR 6 integer"}, {"(subseq \"hello\" 2 2)", "\"\""},
		{"(subseq (1 2 3) 1)", "(2 3)"}, {"(subseq (1 2 3) 1 2)", "(2)"}, {"(subseq (1 2 3) 3)", "nil"}, {"(subseq nil 0)", "nil"}, {"(subseq nil 1)", "! TYPE-ERROR 1 integer"}, {"(subseq #(1 2 3) 1 2)", "#(2)"}, {"(subseq #(1 2 3) 3)", "#()"}, {"(subseq #*0110 1 3)", "#*11"}, {"(subseq 5 0)", "! TYPE-ERROR 5 sequence"}, {"(subseq (1 . 2) 0)", "! TYPE-ERROR (1 . 2) sequence"}, {"(subseq (1) 0 1180591620717411303424)", "! TYPE-ERROR 1180591620717411303424 integer"}, {"(subseq (1) -1)", "! TYPE-ERROR -1 unsigned-byte"},
		{"(string \"a\")", "\"a\""}, {"(string abc)", "\"ABC\""}, {"(string #\\a)", "\"a\""}, {"(string nil)", "\"NIL\""}, {"(string 5)", "! TYPE-ERROR 5 string"}, {"(string (a))", "! TYPE-ERROR (a) string"},
	})
	x := object(t, w, "\"abc\"")
	set(t, w, "X", x)
	if call(t, w, "(string $x)").Values[0] != x || call(t, w, "(subseq $x 0)").Values[0] == x {
		t.Error("STRING of a string is this, and SUBSEQ is a new one")
	}
	set(t, w, "LONG", raw(t, w, heap.KindString, strings.Repeat("x", 131072)))
	check(t, w, []row{{"(concat $long \"x\")", "limit 11"}, {"(length $long)", "131072"}, {"(progn)", "! UNDEFINED-FUNCTION progn"}})
}

func TestTypes(t *testing.T) {
	w := newWorld(t)
	set(t, w, "H", call(t, w, "(make-hash-table eq)").Values[0])
	f, _ := w.Function(lisp(t, w, "CAR"))
	set(t, w, "F", f)
	set(t, w, "BOX", making(t, w, heap.KindBox, fix(5)))
	set(t, w, "BAD", raw(t, w, heap.KindString, "\xff"))
	set(t, w, "INF", raw(t, w, heap.KindSingle, "7f800000"))
	x := making(t, w, heap.KindCons, heap.Nil, heap.Nil)
	w.Heap().Set(x, 0, object(t, w, "(1)"))
	y, _ := w.Heap().Get(x, 0)
	w.Heap().Set(x, 1, y)
	set(t, w, "SHARED", x)
	check(t, w, []row{
		{"(typep 1 common-lisp::bit)", "t"}, {"(typep 2 common-lisp::bit)", "nil"}, {"(typep 3 (integer 1 5))", "t"}, {"(typep \"a\" string)", "t"}, {"(typep nil list)", "t"}, {"(typep car symbol)", "t"}, {"(typep 1 t)", "t"}, {"(typep 1 nil)", "nil"},
		{"(typep $h hash-table)", "t"}, {"(typep $f function)", "t"}, {"(typep $h function)", "nil"}, {"(typep $box function)", "nil"}, {"(typep $box t)", "t"}, {"(typep $box symbol)", "nil"},
		{"(typep 1 nothing)", "! SIMPLE-ERROR nothing"}, {"(typep 1 5)", "! SIMPLE-ERROR 5"}, {"(typep 1 (integer a))", "! SIMPLE-ERROR (integer a)"},
		{"(typep #1=(1 . #1#) cons)", "t"}, {"(typep #1=(1 . #1#) list)", "t"}, {"(typep #1=(1 . #1#) (cons integer))", "nil"}, {"(typep $shared cons)", "t"}, {"(typep $shared (cons cons cons))", "nil"}, {"(typep #1=#(#1#) vector)", "nil"}, {"(typep #1=#(#1#) atom)", "t"}, {"(typep $bad string)", "nil"}, {"(typep $bad t)", "t"}, {"(typep $inf t)", "t"},
		{"(typep 1 #1=(or #2=bit . #1#))", "! SIMPLE-ERROR #0=(or bit . #0#)"}, {"(typep $inf nothing)", "! SIMPLE-ERROR nothing"},
		{"(subtypep common-lisp::bit integer)", "t t"}, {"(subtypep integer common-lisp::bit)", "nil t"}, {"(subtypep nothing integer)", "! SIMPLE-ERROR nothing"}, {"(subtypep integer nothing)", "! SIMPLE-ERROR nothing"}, {"(subtypep nothing 5)", "! SIMPLE-ERROR nothing"}, {"(subtypep (mod 5) (integer 0 4))", "t t"},
		{"(values)", ""}, {"(values 1 2 3)", "1 2 3"}, {"(identity 5)", "5"}, {"(identity)", "! PROGRAM-ERROR identity"},
	})
}

func TestPrinting(t *testing.T) {
	w := newWorld(t)
	w.Symbols().Make("P", nil, nil)
	set(t, w, "BAD", raw(t, w, heap.KindString, "\xff"))
	set(t, w, "BOX", making(t, w, heap.KindBox, fix(5)))
	check(t, w, []row{
		{"(prin1 \"a\\\"b\")", "\"a\\\"b\""}, {"(terpri)", "nil"}, {"(princ \"a\\\"b\")", "\"a\\\"b\""}, {"(print (car x))", "(car x)"}, {"(write-string \"x y\")", "\"x y\""}, {"(write-string x)", "! TYPE-ERROR x string"}, {"(prin1 #\\a)", "#\\a"}, {"(princ #\\a)", "#\\a"}, {"(prin1 $box)", "%::box"}, {"(prin1 $bad)", "error 4"}, {"(terpri 5)", "! PROGRAM-ERROR terpri"},
		{"(prin1-to-string \"a\\\"b\")", "\"\\\"a\\\\\\\"b\\\"\""}, {"(princ-to-string \"a\\\"b\")", "\"a\\\"b\""}, {"(prin1-to-string #1=(a . #1#))", "\"#0=(a . #0#)\""}, {"(prin1-to-string (common-lisp::quote x))", "\"'x\""}, {"(prin1-to-string :k)", "\":k\""}, {"(princ-to-string :k)", "\"k\""}, {"(prin1-to-string #:x)", "\"#:x\""}, {"(prin1-to-string $bad)", "\"%::object\""}, {"(prin1-to-string p::x)", "\"p::x\""}, {"(prin1-to-string 1.5d0)", "\"1.5d0\""},
	})
	if want := "\"a\\\"b\"\na\"b\n(car x) x y#\\aa%::box%::object"; w.Output() != want {
		t.Errorf("the output is %q; want %q", w.Output(), want)
	}
	long := raw(t, w, heap.KindString, strings.Repeat("x", 100001))
	for _, name := range []string{"PRIN1", "PRINC", "PRINT", "PRIN1-TO-STRING", "PRINC-TO-STRING"} {
		a := w.Call(lisp(t, w, name), []heap.Word{long})
		if a.Kind != lib.AnswerFault || a.Fault.Type != "SIMPLE-ERROR" || len(a.Fault.Data) != 1 || a.Fault.Data[0] != long {
			t.Errorf("%s of a long string: %d, %s", name, a.Kind, a.Fault.Type)
		}
	}
	object := call(t, w, "(prin1 $bad)").Values
	if bad, _ := w.Value(symbol(t, w, "COMMON-LISP-USER", "BAD")); len(object) != 1 || object[0] != bad {
		t.Errorf("PRIN1 returns %v", object)
	}
}

func TestReading(t *testing.T) {
	w := newWorld(t)
	check(t, w, []row{
		{"(read-from-string \"(1 . 2)\")", "(1 . 2)"}, {"(read-from-string \" car ; x\")", "car"}, {"(read-from-string \"newone\")", "newone"}, {"(read-from-string \"#1=(a . #1#)\")", "#0=(a . #0#)"}, {"(read-from-string \":k\")", ":k"}, {"(read-from-string \"1.5\")", "1.5"},
		{"(read-from-string \"(1\")", "! PARSE-ERROR \"(1\""}, {"(read-from-string \"\")", "! PARSE-ERROR \"\""}, {"(read-from-string \"1 2\")", "! PARSE-ERROR \"1 2\""}, {"(read-from-string \"q::x\")", "! PARSE-ERROR \"q::x\""}, {"(read-from-string \"`x\")", "! PARSE-ERROR \"`x\""}, {"(read-from-string \"" + strings.Repeat("x", 61) + "\")", "! PARSE-ERROR \"" + strings.Repeat("x", 61) + "\""}, {"(read-from-string x)", "! TYPE-ERROR x string"},
		{"(format nil \"~A and ~S\" \"a\" \"b\")", "\"a and \\\"b\\\"\""}, {"(format nil \"~D item~:P\" 3)", "\"3 items\""}, {"(format nil \"\")", "\"\""}, {"(format nil \"~A\")", "! SIMPLE-ERROR \"~A\""}, {"(format nil \"~Q\" 1)", "! SIMPLE-ERROR \"~Q\""}, {"(format nil \"~D\" a)", "\"a\""}, {"(format t \"<~A>\" (1 2))", "nil"}, {"(format 5 \"~A\" car)", "nil"}, {"(format nil x)", "! TYPE-ERROR x string"}, {"(format nil)", "! PROGRAM-ERROR format"}, {"(format nil \"~S\" #1=(a . #1#))", "\"#0=(a . #0#)\""},
	})
	if w.Output() != "<(1 2)>car" {
		t.Errorf("the output is %q", w.Output())
	}
}

func TestOutputLimit(t *testing.T) {
	w := newWorld(t)
	if e := w.Print(strings.Repeat("x", api.MaxOutput-3)); e != api.OK {
		t.Fatal(e)
	}
	check(t, w, []row{{"(prin1 \"abcd\")", "limit 14"}, {"(print 12)", "limit 14"}, {"(princ \"ab\")", "\"ab\""}, {"(format t \"ab\")", "limit 14"}, {"(terpri)", "nil"}, {"(terpri)", "limit 14"}, {"(write-string \"\")", "\"\""}, {"(write-string \"a\")", "limit 14"}})
	if len(w.Output()) != api.MaxOutput {
		t.Errorf("%d bytes of output", len(w.Output()))
	}
	if e := w.Print("x"); e != api.ErrLarge {
		t.Errorf("Print: %v; want ErrLarge", e)
	}
	if e := w.Print(""); e != api.OK {
		t.Errorf("Print of nothing: %v", e)
	}
}

// Functions that hand arguments on.
func TestHanding(t *testing.T) {
	w := newWorld(t)
	closure := making(t, w, heap.KindClosure, heap.Nil, heap.Nil)
	set(t, w, "F", closure)
	w.SetFunction(symbol(t, w, "COMMON-LISP-USER", "F"), closure)
	car, _ := w.Function(lisp(t, w, "CAR"))
	set(t, w, "CAR", car)
	check(t, w, []row{
		{"(funcall car (1 2))", "1"}, {"(funcall $car (1 2))", "1"}, {"(funcall $f 5)", "> %::closure 5"}, {"(funcall f 5 6)", "> %::closure 5 6"}, {"(funcall nope 1)", "! UNDEFINED-FUNCTION nope"}, {"(funcall 5)", "! TYPE-ERROR 5 function"}, {"(funcall)", "! PROGRAM-ERROR funcall"}, {"(funcall car 5)", "! TYPE-ERROR 5 list"}, {"(funcall car)", "! PROGRAM-ERROR car"}, {"(funcall funcall funcall car (1))", "1"}, {"(funcall values)", ""}, {"(funcall $f)", "> %::closure"},
		{"(apply + 1 2 (3 4))", "10"}, {"(apply + nil)", "0"}, {"(apply $f 1 (2))", "> %::closure 1 2"}, {"(apply f (2))", "> %::closure 2"}, {"(apply + 1)", "! TYPE-ERROR 1 list"}, {"(apply + 1 (2 . 3))", "! TYPE-ERROR (2 . 3) list"}, {"(apply + #1=(1 . #1#))", "! TYPE-ERROR #0=(1 . #0#) list"}, {"(apply +)", "! PROGRAM-ERROR apply"}, {"(apply nope (1))", "! UNDEFINED-FUNCTION nope"}, {"(apply nope 1)", "! UNDEFINED-FUNCTION nope"}, {"(apply 5 (1))", "! TYPE-ERROR 5 function"}, {"(apply apply + (1 (2)))", "3"}, {"(apply funcall (+ 1 2))", "3"},
		{"($f 7)", "> %::closure 7"}, {"(5 7)", "! TYPE-ERROR 5 function"}, {"(\"car\" 7)", "! TYPE-ERROR \"car\" function"}, {"(nope 7)", "! UNDEFINED-FUNCTION nope"},
	})
	// Many functions inside of one another have an answer; those that go on without end have a limit.
	deep := make([]heap.Word, 0, 20000)
	funcall, _ := w.Function(lisp(t, w, "FUNCALL"))
	for range 19998 {
		deep = append(deep, funcall)
	}
	deep = append(deep, car, object(t, w, "(7)"))
	if got := told(w, w.Call(funcall, deep)); got != "7" {
		t.Errorf("20000 times FUNCALL: %s", got)
	}
	for _, s := range []string{"#1=(apply #1#)", "#1=(apply apply apply #1#)", "#1=(funcall apply funcall apply #1#)"} {
		if got := told(w, w.Call(lisp(t, w, "APPLY"), []heap.Word{lisp(t, w, "APPLY"), object(t, w, s)})); got != "limit 12" {
			t.Errorf("APPLY of %s: %s; want a limit", s, got)
		}
	}
	// The values are new memory.
	args := []heap.Word{closure, fix(1)}
	a := w.Call(funcall, args)
	args[1] = fix(2)
	if a.Kind != lib.AnswerNext || a.Values[0] != fix(1) {
		t.Errorf("the values have become %v", a.Values)
	}
	list := []heap.Word{fix(1)}
	b := w.Call(lisp(t, w, "VALUES"), list)
	list[0] = fix(2)
	if b.Values[0] != fix(1) {
		t.Errorf("the values have become %v", b.Values)
	}
}
