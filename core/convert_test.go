package core_test

import (
	"math/rand"
	"strconv"
	"strings"
	"testing"

	"commonform/api"
	"commonform/core"
	"commonform/forms"
)

func TestConvert(t *testing.T) {
	for _, c := range []struct{ form, want string }{
		// What is its own value, and variables.
		{"5", "(const #5)"},
		{"1/2", "(const 3::1/2)"},
		{"#\\a", "(const 7::a)"},
		{"\"a b\"", "(const 8::a~20b)"},
		{"#*01", "(const 9::01)"},
		{"#(x 1)", "(const 11::('X #1))"},
		{"#2a((1))", "(const 12::1~201(#1))"},
		{"nil", "(const 'NIL)"},
		{"t", "(const 'T)"},
		{":k", "(const :K)"},
		{"x", "(special 'X)"},
		{"&rest", "(special '&REST)"},
		{"'x", "(const 'X)"},
		{"'(1 . x)", "(const 10::(#1 'X))"},
		{"'#:x", "(const 1::X)"},
		{"(let ((#:x 1)) #:x)", "(let [0] (const #1) (var 0))"},
		// IF, PROGN and SETQ.
		{"(if 1 2)", "(if (const #1) (const #2) (const 'NIL))"},
		{"(if 1 2 3)", "(if (const #1) (const #2) (const #3))"},
		{"(progn)", "(progn)"},
		{"(progn 1)", "(const #1)"},
		{"(progn 1 2)", "(progn (const #1) (const #2))"},
		{"(setq)", "(const 'NIL)"},
		{"(setq x 1)", "(setspecial 'X (const #1))"},
		{"(let (x) (setq x 1 y x))", "(let [0] (const 'NIL) (progn (set 0 (const #1)) (setspecial 'Y (var 0))))"},
		// LET and LET*.
		{"(let () 1 2)", "(progn (const #1) (const #2))"},
		{"(let nil)", "(progn)"},
		{"(let (x (y) (z x)) (list x y z))", "(let [0 1 2] (const 'NIL) (const 'NIL) (special 'X) (callglobal 'LIST (var 0) (var 1) (var 2)))"},
		{"(let ((x 1)) (let ((x x)) x))", "(let [0] (const #1) (let [1] (var 0) (var 1)))"},
		{"(let ((x (let ((y 1)) y))) x)", "(let [1] (let [0] (const #1) (var 0)) (var 1))"},
		{"(let ((s 1)) s)", "(bind ['S] (const #1) (special 'S))"},
		{"(let ((x 1) (s x)) (list x s))", "(let [0 1] (const #1) (special 'X) (bind ['S] (var 1) (callglobal 'LIST (var 0) (special 'S))))"},
		{"(let ((s 1) (x s) (r 2)) x)", "(let [0 1 2] (const #1) (special 'S) (const #2) (bind ['S 'R] (var 0) (var 2) (var 1)))"},
		{"(let ((x 1)) (declare (special x)) x)", "(bind ['X] (const #1) (special 'X))"},
		{"(let ((x 1)) (let ((x 2)) (declare (special x)) x) x)", "(let [0] (const #1) (progn (bind ['X] (const #2) (special 'X)) (var 0)))"},
		{"(let ((x 1)) (let ((y x)) (declare (special x)) x))", "(let [0] (const #1) (let [1] (var 0) (special 'X)))"},
		{"(let ((x 1)) (declare (special x)) (let ((x 2)) x))", "(bind ['X] (const #1) (let [0] (const #2) (var 0)))"},
		{"(let ((x 1)) (declare (type integer x) (foo) (special y z)) (declare (ignore x)) x)", "(let [0] (const #1) (var 0))"},
		{"(let ((x 1)) (declare (special 5 nil :k)) x)", "(let [0] (const #1) (var 0))"},
		{"(let ((x 1)) (declare) x)", "(let [0] (const #1) (var 0))"},
		{"(let ((x 1)) x (declare (special x)))", "(let [0] (const #1) (progn (var 0) (callglobal 'DECLARE (callglobal 'SPECIAL (var 0)))))"},
		{"(let* () 1)", "(const #1)"},
		{"(let* ((x 1) (x x)) x)", "(let [0] (const #1) (let [1] (var 0) (var 1)))"},
		{"(let* ((x 1) (s x)) (list x s))", "(let [0] (const #1) (bind ['S] (var 0) (callglobal 'LIST (var 0) (special 'S))))"},
		{"(let* ((x 1) (y x)) (declare (special x)) x)", "(bind ['X] (const #1) (let [0] (special 'X) (special 'X)))"},
		{"(let ((z 1)) (let* ((x z)) (declare (special z)) z))", "(let [0] (const #1) (let [1] (var 0) (special 'Z)))"},
		{"(locally (declare (special x)) x)", "(special 'X)"},
		{"(let ((x 1)) (locally (declare (special x)) (setq x 2) x))", "(let [0] (const #1) (progn (setspecial 'X (const #2)) (special 'X)))"},
		// Functions.
		{"#'car", "(function 'CAR)"},
		{"#'if", "(function 'IF)"},
		{"(foo 1 x)", "(callglobal 'FOO (const #1) (special 'X))"},
		{"#'(lambda ())", "(lambda 0 (progn))"},
		{"#'(lambda nil 1)", "(lambda 0 (const #1))"},
		{"#'(lambda (a &optional b (c a) (d 1 e) &rest z) z)", "(lambda 0 {1 0 -1 -} {2 1 -1 -} {2 2 -1 -} {2 3 4 -} {3 5 -1 -} (const 'NIL) (var 0) (const #1) (var 5))"},
		{"#'(lambda (&key a ((:k b) a c) ((x d))) d)", "(lambda 0 {4 0 -1 :A} {4 1 2 :K} {4 3 -1 'X} (const 'NIL) (var 0) (const 'NIL) (var 3))"},
		{"#'(lambda (&key))", "(lambda 0 (progn))"},
		{"#'(lambda (&key &allow-other-keys))", "(lambda 1 (progn))"},
		{"#'(lambda (&key a &allow-other-keys) a)", "(lambda 1 {4 0 -1 :A} (const 'NIL) (var 0))"},
		{"#'(lambda (&optional (a (let ((x 1)) x)) (b a)) b)", "(lambda 0 {2 1 -1 -} {2 2 -1 -} (let [0] (const #1) (var 0)) (var 1) (var 2))"},
		{"#'(lambda (&optional (a b ap) (b ap)) b)", "(lambda 0 {2 0 1 -} {2 2 -1 -} (special 'B) (var 1) (var 2))"},
		{"#'(lambda (a &aux (b a) c) (list a b c))", "(lambda 0 {1 0 -1 -} (let [1] (var 0) (let [2] (const 'NIL) (callglobal 'LIST (var 0) (var 1) (var 2)))))"},
		{"#'(lambda (s) s)", "(lambda 0 {1 0 -1 -} (bind ['S] (var 0) (special 'S)))"},
		{"#'(lambda (s &optional (x s xp) (y x r)) (list s r))", "(lambda 0 {1 0 -1 -} {2 1 2 -} {2 3 4 -} (var 0) (var 1) (bind ['S 'R] (var 0) (var 4) (callglobal 'LIST (special 'S) (special 'R))))"},
		{"#'(lambda (s &optional (y (let ((s 1) (z 2)) s))) y)", "(lambda 0 {1 0 -1 -} {2 3 -1 -} (let [1 2] (const #1) (const #2) (bind ['S] (var 1) (special 'S))) (bind ['S] (var 0) (var 3)))"},
		{"#'(lambda (x &aux (y x) (s y)) (declare (special x)) (list x y s))", "(lambda 0 {1 0 -1 -} (bind ['X] (var 0) (let [1] (special 'X) (bind ['S] (var 1) (callglobal 'LIST (special 'X) (var 1) (special 'S))))))"},
		{"#'(lambda (x &aux (y z)) (declare (special z)) z)", "(lambda 0 {1 0 -1 -} (let [1] (special 'Z) (special 'Z)))"},
		{"(let ((z 1)) #'(lambda (&aux (y z)) (declare (special z)) z))", "(let [0] (const #1) (lambda 0 (let [1] (var 0) (special 'Z))))"},
		{"((lambda (x) x) 1)", "(call (lambda 0 {1 0 -1 -} (var 0)) (const #1))"},
		{"((lambda (x) x) (let ((y 1)) y))", "(call (lambda 0 {1 0 -1 -} (var 0)) (let [1] (const #1) (var 1)))"},
		// Local functions.
		{"(flet ((f (x) x)) (f 2))", "(let [1] (lambda 0 {1 0 -1 -} (block 0 (var 0))) (call (var 1) (const #2)))"},
		{"(flet () 1)", "(let [] (const #1))"},
		{"(labels () 1)", "(labels [] (const #1))"},
		{"(flet ((f () (f))) #'f)", "(let [0] (lambda 0 (block 0 (callglobal 'F))) (var 0))"},
		{"(labels ((f () (g)) (g () (f))) (f))", "(labels [0 1] (lambda 0 (block 0 (call (var 1)))) (lambda 0 (block 1 (call (var 0)))) (call (var 0)))"},
		{"(labels ((f (x) (return-from f x))) (f 1))", "(labels [0] (lambda 0 {1 1 -1 -} (block 0 (return 0 (var 1)))) (call (var 0) (const #1)))"},
		{"(flet ((f () 1) (f () 2)) (f))", "(let [0 1] (lambda 0 (block 0 (const #1))) (lambda 0 (block 1 (const #2))) (call (var 1)))"},
		{"(flet ((f (&optional (x 1) &aux (y x)) (declare (special y)) 1 2)) 3)", "(let [1] (lambda 0 {2 0 -1 -} (const #1) (bind ['Y] (var 0) (block 0 (progn (const #1) (const #2))))) (const #3))"},
		{"(let ((f 1)) (flet ((f () f)) (f f)))", "(let [0] (const #1) (let [1] (lambda 0 (block 0 (var 0))) (call (var 1) (var 0))))"},
		{"(flet ((if () 1)) (if 1 2 3) #'if)", "(let [0] (lambda 0 (block 0 (const #1))) (progn (if (const #1) (const #2) (const #3)) (var 0)))"},
		{"(flet ((#:f () 1)) (#:f))", "(let [0] (lambda 0 (block 0 (const #1))) (call (var 0)))"},
		{"(let ((x 1)) (flet ((f () x)) (declare (special x)) x))", "(let [0] (const #1) (let [1] (lambda 0 (block 0 (var 0))) (special 'X)))"},
		// Exits.
		{"(block nil)", "(block 0 (progn))"},
		{"(block a (return-from a))", "(block 0 (return 0 (const 'NIL)))"},
		{"(block a (block b (block a (return-from a 1)) (return-from a 2)))", "(block 0 (block 1 (progn (block 2 (return 2 (const #1))) (return 0 (const #2)))))"},
		{"(block a #'(lambda () (return-from a 1)))", "(block 0 (lambda 0 (return 0 (const #1))))"},
		{"(tagbody)", "(tagbody [] (progn))"},
		{"(tagbody a (go a))", "(tagbody [0] (progn) (go 0))"},
		{"(tagbody 1 (car 1) (car 2) a b (go b) c nil (go nil) 7 -3 t)", "(tagbody [0 1 2 3 4 5 6 7] (progn) (progn (callglobal 'CAR (const #1)) (callglobal 'CAR (const #2))) (progn) (go 2) (progn) (go 4) (progn) (progn) (progn))"},
		{"(tagbody (car 1) (car 2) a (tagbody a (go a) b) (go a))", "(tagbody [0] (progn (callglobal 'CAR (const #1)) (callglobal 'CAR (const #2))) (progn (tagbody [1 2] (progn) (go 1) (progn)) (go 0)))"},
		{"(tagbody 7 #'(lambda () (go 7)))", "(tagbody [0] (progn) (lambda 0 (go 0)))"},
		{"(catch 'a)", "(catch (const 'A) (progn))"},
		{"(catch 'a 1 2)", "(catch (const 'A) (progn (const #1) (const #2)))"},
		{"(throw 'a 1)", "(throw (const 'A) (const #1))"},
		{"(unwind-protect 1)", "(protect (const #1) (progn))"},
		{"(unwind-protect 1 2)", "(protect (const #1) (const #2))"},
		{"(multiple-value-call #'list 1 2)", "(valuescall (function 'LIST) (const #1) (const #2))"},
		{"(multiple-value-call f)", "(valuescall (special 'F))"},
		{"(multiple-value-prog1 1 2 3)", "(valuesfirst (const #1) (const #2) (const #3))"},
		{"(progv '(x) '(1) x y)", "(progv (const 10::('X 'NIL)) (const 10::(#1 'NIL)) (progn (special 'X) (special 'Y)))"},
		{"(the integer x)", "(special 'X)"},
		{"(load-time-value (car x) t)", "(callglobal 'CAR (special 'X))"},
	} {
		got, e := core.Convert(read(t, c.form), []api.Form{symbol("COMMON-LISP", "S"), symbol("COMMON-LISP", "R"), {Kind: api.FormInt, Text: "1"}})
		if e != api.OK || show(t, got) != c.want {
			t.Errorf("Convert(%s) = %s, %v; want %s", c.form, brief(got), e, c.want)
			continue
		}
		if e := core.Check(got); e != api.OK || len(core.Free(got)) > 0 {
			t.Errorf("Convert(%s) is not right: %v", c.form, e)
		}
	}
}

// The first error of a form, in the order of evaluation; shapes come ahead of parts.
func TestConvertErrors(t *testing.T) {
	for _, c := range []struct {
		form string
		e    api.Errno
	}{
		{"(if)", api.ErrForm}, {"(if 1)", api.ErrForm}, {"(if 1 2 3 4)", api.ErrForm}, {"(if 1 . 2)", api.ErrForm}, {"(if 1 2 . 3)", api.ErrForm},
		{"(quote)", api.ErrForm}, {"(quote 1 2)", api.ErrForm}, {"(progn . 1)", api.ErrForm},
		{"(setq x)", api.ErrForm}, {"(setq 5 1)", api.ErrForm}, {"(setq nil 1)", api.ErrForm}, {"(setq :k 1)", api.ErrForm}, {"(setq &rest 1)", api.ErrForm}, {"(setq #:x 1)", api.ErrForm}, {"(setq (x) 1)", api.ErrForm},
		{"#:x", api.ErrForm}, {"(#:f)", api.ErrForm}, {"#'#:f", api.ErrForm}, {"(nil)", api.ErrForm}, {"(t 1)", api.ErrForm}, {"(:k)", api.ErrForm}, {"(5)", api.ErrForm}, {"((f) 1)", api.ErrForm}, {"((f (x) x) 1)", api.ErrForm}, {"(function (f (x) x))", api.ErrForm}, {"((lambda) 1)", api.ErrForm}, {"(\"f\")", api.ErrForm},
		{"(function)", api.ErrForm}, {"(function f g)", api.ErrForm}, {"(function 5)", api.ErrForm}, {"(function nil)", api.ErrForm}, {"(function :k)", api.ErrForm}, {"(function (setf f))", api.ErrForm}, {"(function (lambda))", api.ErrForm}, {"(function (lambda 5))", api.ErrForm}, {"(function (lambda (5)))", api.ErrForm}, {"(function (lambda (x x)))", api.ErrTwice}, {"(function (lambda ((x))))", api.ErrForm}, {"(function (lambda (&whole x)))", api.ErrForm}, {"(function (lambda () . 1))", api.ErrForm},
		{"(let)", api.ErrForm}, {"(let 5)", api.ErrForm}, {"(let (5))", api.ErrForm}, {"(let (nil))", api.ErrForm}, {"(let ((x 1 2)))", api.ErrForm}, {"(let ((5 1)))", api.ErrForm}, {"(let ((x . 1)))", api.ErrForm}, {"(let (x . y))", api.ErrForm}, {"(let ((&key 1)))", api.ErrForm}, {"(let (()))", api.ErrForm},
		{"(let (x x))", api.ErrTwice}, {"(let (x (x 1) 5))", api.ErrTwice}, {"(let (x 5 x))", api.ErrForm}, {"(let (x x) (declare . 5))", api.ErrTwice},
		{"(let (#:x) (declare (special #:x)) #:x)", api.ErrForm}, {"(let (#:x) (declare (special #:x)) 1)", api.ErrForm}, {"(let* (#:x) (declare (special #:x)) 1)", api.ErrForm}, {"#'(lambda (#:x) (declare (special #:x)) 1)", api.ErrForm}, {"#'(lambda (&aux #:x) (declare (special #:x)) 1)", api.ErrForm}, {"(let (#:x) (declare (ignore #:x)) #:x)", api.OK}, {"(locally (declare (special #:x)) #:x)", api.ErrForm}, {"(locally (declare (special #:x)) 1)", api.OK},
		{"(let*)", api.ErrForm}, {"(let* (x x 5))", api.ErrForm}, {"(let* (x x))", api.OK},
		{"(locally (declare . 5))", core.ErrDeclare}, {"(locally (declare 5))", core.ErrDeclare}, {"(locally (declare ()))", core.ErrDeclare}, {"(locally (declare (5)))", core.ErrDeclare}, {"(locally (declare (special . x)))", core.ErrDeclare}, {"(locally (declare (special x) x))", core.ErrDeclare}, {"(let () (declare ((special x))))", core.ErrDeclare}, {"(let* () (declare 1))", core.ErrDeclare}, {"#'(lambda () (declare 1))", core.ErrDeclare}, {"(flet ((f () (declare 1))) 1)", core.ErrDeclare}, {"(labels () (declare 1))", core.ErrDeclare}, {"((lambda () (declare 1)))", core.ErrDeclare}, {"(locally 1 (declare 1))", api.OK},
		{"(flet)", api.ErrForm}, {"(labels)", api.ErrForm}, {"(flet 5)", api.ErrForm}, {"(flet (f))", api.ErrForm}, {"(flet ((f)))", api.ErrForm}, {"(flet ((5 ())))", api.ErrForm}, {"(flet ((nil ())))", api.ErrForm}, {"(flet ((:k ())))", api.ErrForm}, {"(flet (((setf f) ())))", api.ErrForm}, {"(flet ((f (x x))))", api.ErrTwice}, {"(labels ((f 5)))", api.ErrForm}, {"(labels ((t ())))", api.ErrForm},
		{"(block)", api.ErrForm}, {"(block 5)", api.ErrForm}, {"(block (a))", api.ErrForm}, {"(return-from)", api.ErrForm}, {"(return-from 5)", api.ErrForm}, {"(return-from a 1 2)", api.ErrForm}, {"(return-from a)", core.ErrScope}, {"(block a (return-from b))", core.ErrScope}, {"(progn (block a) (return-from a))", core.ErrScope}, {"(return-from a (if))", core.ErrScope},
		{"(flet ((f (&optional (x (return-from f))))) (f))", core.ErrScope}, {"(flet ((f (&aux (x (return-from f))))) (f))", core.ErrScope}, {"(flet ((f ())) (return-from f))", core.ErrScope},
		{"(go)", api.ErrForm}, {"(go a b)", api.ErrForm}, {"(go \"a\")", api.ErrForm}, {"(go (a))", api.ErrForm}, {"(go a)", core.ErrScope}, {"(tagbody a (go b))", core.ErrScope}, {"(tagbody 1 (go 2))", core.ErrScope}, {"(tagbody a a)", api.ErrTwice}, {"(tagbody 1 (if) 1)", api.ErrTwice}, {"(tagbody nil nil)", api.ErrTwice}, {"(tagbody 1 #:a #:a)", api.ErrTwice}, {"(tagbody 1.0 a)", api.OK},
		{"(catch)", api.ErrForm}, {"(throw)", api.ErrForm}, {"(throw 1)", api.ErrForm}, {"(throw 1 2 3)", api.ErrForm}, {"(unwind-protect)", api.ErrForm}, {"(multiple-value-call)", api.ErrForm}, {"(multiple-value-prog1)", api.ErrForm}, {"(progv)", api.ErrForm}, {"(progv 1)", api.ErrForm}, {"(the x)", api.ErrForm}, {"(the x 1 2)", api.ErrForm}, {"(load-time-value)", api.ErrForm}, {"(load-time-value 1 2 3)", api.ErrForm},
		{"#1=x", api.ErrForm}, {"(list '#1=(x) '#1#)", api.ErrForm}, {"'#1=(x . #1#)", api.ErrForm},
		// The first one in order.
		{"(list (go a) (if))", core.ErrScope}, {"(list (if) (go a))", api.ErrForm}, {"(let ((x (go a)) (5 1)) 1)", api.ErrForm}, {"(let ((x (go a))) (declare 1) 1)", core.ErrDeclare}, {"(let ((x (go a))) (if))", core.ErrScope},
		{"(#:f (go a))", api.ErrForm}, {"(setq x (go a) 5 1)", api.ErrForm}, {"(setq x (go a) #:y 1)", core.ErrScope}, {"(setq #:y (go a))", api.ErrForm},
		{"(flet ((f () (go a)) (g 5)) 1)", api.ErrForm}, {"(flet ((f () (go a))) (declare 1) 1)", core.ErrDeclare}, {"(flet ((f () (go a)) (g (x x))) 1)", api.ErrTwice}, {"(flet ((f (x) (declare 1)) (g 5)) 1)", core.ErrDeclare},
		{"#'(lambda (x x) (declare 1))", api.ErrTwice}, {"#'(lambda (#:x) (declare (special #:x)) (declare 1))", core.ErrDeclare}, {"((lambda (x x)) (if))", api.ErrTwice}, {"((lambda (x) (go a)) (if))", core.ErrScope}, {"(the (go a) 5)", api.OK},
	} {
		got, e := core.Convert(read(t, c.form), nil)
		if e != c.e || e != api.OK && !isZero(got) {
			t.Errorf("Convert(%s) = %s, %v; want %v", c.form, brief(got), e, c.e)
		}
	}
}

// Errors of forms come first, sizes of trees last.
func TestConvertSizes(t *testing.T) {
	call := func(kids ...api.Form) api.Form { return forms.Call("LIST", kids) }
	one := api.Form{Kind: api.FormInt, Text: "1"}
	ones := func(n int) []api.Form {
		var l []api.Form
		for range n {
			l = append(l, one)
		}
		return l
	}
	bindings := func(n int) api.Form {
		var l []api.Form
		for i := range n {
			l = append(l, symbol("P", "X"+strconv.Itoa(i)))
		}
		return forms.List(l)
	}
	deep := one
	for range 98 {
		deep = forms.Call("PROGN", []api.Form{call(deep)})
	}
	scope := forms.Call("GO", []api.Form{symbol("P", "A")})
	for i, c := range []struct {
		f api.Form
		e api.Errno
	}{
		{api.Form{}, api.ErrForm},
		{api.Form{Kind: api.FormInt, Text: "01"}, api.ErrForm},
		{api.Form{Kind: api.FormRef, Text: "0"}, forms.ErrLabel},
		{call(ones(api.MaxForm)...), api.ErrSize},
		{call(ones(api.MaxForm - 3)...), api.OK},
		{deep, api.ErrSize},
		{forms.Call("LET*", []api.Form{bindings(99), one}), api.OK},
		{forms.Call("LET*", []api.Form{bindings(100), one}), api.ErrSize},
		{forms.Call("LET*", []api.Form{bindings(100), scope}), core.ErrScope},
		{forms.Call("LET", []api.Form{bindings(1990), one}), api.OK},
		{forms.Call("PROGN", append(ones(500), forms.Call("SETQ", ones(2)))), api.ErrForm},
		{forms.Call("LET", []api.Form{bindings(940), forms.Call("LET", []api.Form{bindings(940), call(ones(90)...)})}), api.OK},
	} {
		got, e := core.Convert(c.f, nil)
		if e != c.e || e != api.OK && !isZero(got) {
			t.Errorf("%d: Convert: %v; want %v", i, e, c.e)
		}
	}
	if _, e := core.Convert(forms.Call("TAGBODY", tagsTo(997)), nil); e != api.OK {
		t.Errorf("997 tags: %v", e)
	}
	// Special variables beside a lexical one have two nodes each.
	let := forms.Call("LET", []api.Form{bindings(1100), one})
	specials, _ := forms.Items(bindings(1100))
	if c, e := core.Convert(let, specials); e != api.OK || core.Size(c) != 1102 {
		t.Errorf("1100 special variables: %d, %v", core.Size(c), e)
	}
	if c, e := core.Convert(let, specials[1:]); e != api.ErrSize || !isZero(c) {
		t.Errorf("1099 special variables and a lexical one: %v; want ErrSize", e)
	}
}

func tagsTo(n int) []api.Form {
	var l []api.Form
	for i := range n {
		l = append(l, api.Form{Kind: api.FormInt, Text: strconv.Itoa(i)})
	}
	return l
}

// A speaker makes expanded forms; names of what it binds begin with its prefix, and are all different.
type speaker struct {
	r                     *rand.Rand
	prefix                string
	next                  int
	variables, functions  []string
	blocks, tags, special []string
}

func (s *speaker) name() string {
	s.next++
	return s.prefix + strconv.Itoa(s.next)
}

func (s *speaker) one(l []string, otherwise string) string {
	if len(l) == 0 {
		return otherwise
	}
	return l[s.r.Intn(len(l))]
}

func (s *speaker) form(depth int) string {
	inner := *s
	defer func() { s.next = inner.next }()
	if depth <= 0 {
		return []string{"5", "nil", ":key", "free", s.one(s.variables, "free"), s.one(s.variables, "'free"), s.one(s.special, "free")}[s.r.Intn(7)]
	}
	depth--
	switch s.r.Intn(14) {
	case 0:
		a, b := inner.form(depth), ""
		v := inner.name()
		inner.variables = append(append([]string(nil), s.variables...), v)
		b = inner.form(depth)
		return "(let ((" + v + " " + a + ") (sp 3)) " + b + ")"
	case 1:
		v, w := inner.name(), inner.name()
		a := inner.form(depth)
		inner.variables = append(append([]string(nil), s.variables...), v)
		b := inner.form(depth)
		inner.variables = append(append([]string(nil), inner.variables...), w)
		return "(let* ((" + v + " " + a + ") (" + w + " " + b + ")) " + inner.form(depth) + ")"
	case 2:
		f, v := inner.name(), inner.name()
		inner.functions = append(append([]string(nil), s.functions...), f)
		inner.blocks = append(append([]string(nil), s.blocks...), f)
		inner.variables = append(append([]string(nil), s.variables...), v)
		a := inner.form(depth)
		inner.variables, inner.blocks = s.variables, s.blocks
		return "(labels ((" + f + " (" + v + ") " + a + ")) " + inner.form(depth) + ")"
	case 3:
		b := inner.name()
		inner.blocks = append(append([]string(nil), s.blocks...), b)
		return "(block " + b + " " + inner.form(depth) + " " + inner.form(depth) + ")"
	case 4:
		if len(s.blocks) > 0 {
			return "(return-from " + s.one(s.blocks, "") + " " + inner.form(depth) + ")"
		}
	case 5:
		tag := inner.name()
		inner.tags = append(append([]string(nil), s.tags...), tag)
		return "(tagbody (list " + inner.form(depth) + ") " + tag + " (list " + inner.form(depth) + "))"
	case 6:
		if len(s.tags) > 0 {
			return "(go " + s.one(s.tags, "") + ")"
		}
	case 7:
		v, w, g := inner.name(), inner.name(), inner.name()
		inner.variables = append(append([]string(nil), s.variables...), v)
		a := inner.form(depth)
		inner.variables = append(append([]string(nil), inner.variables...), w, g)
		return "(function (lambda (" + v + " &key ((:k " + w + ") " + a + " " + g + ")) " + inner.form(depth) + "))"
	case 8:
		return "(" + s.one(s.functions, "foo") + " " + inner.form(depth) + ")"
	case 9:
		return "(function " + s.one(s.functions, "foo") + ")"
	case 10:
		return "(setq " + s.one(s.variables, "free") + " " + inner.form(depth) + ")"
	case 11:
		return "(if " + inner.form(depth) + " " + inner.form(depth) + ")"
	case 12:
		return "(unwind-protect " + inner.form(depth) + " " + inner.form(depth) + ")"
	}
	return "(progn " + inner.form(depth) + " " + inner.form(depth) + ")"
}

// P19.2: what Convert returns is right, and names of what a form binds play no part.
func TestConvertNames(t *testing.T) {
	specials := []api.Form{symbol("COMMON-LISP", "SP")}
	done := 0
	for seed := range int64(1500) {
		var texts []string
		for _, prefix := range []string{"v", "other"} {
			s := &speaker{r: rand.New(rand.NewSource(seed)), prefix: prefix, special: []string{"sp"}}
			form := s.form(5)
			if len(form) > api.MaxSource {
				break
			}
			c, e := core.Convert(read(t, form), specials)
			if e != api.OK {
				t.Fatalf("Convert(%s): %v", form, e)
			}
			if e := core.Check(c); e != api.OK || len(core.Free(c)) > 0 {
				t.Fatalf("the tree of %s is not right: %v", form, e)
			}
			texts = append(texts, show(t, c))
		}
		if len(texts) < 2 {
			continue
		}
		done++
		if texts[0] != texts[1] {
			t.Fatalf("other names make another tree: %s and %s", texts[0], texts[1])
		}
	}
	if done < 1000 {
		t.Errorf("only %d forms", done)
	}
}

// A tree shares no memory with the form.
func TestConvertMemory(t *testing.T) {
	f := read(t, "(list '(a b) x)")
	c, _ := core.Convert(f, nil)
	want := show(t, c)
	f.Kids[1].Kids[1].Kids[0].Text = "C"
	f.Kids[2].Text = "Y"
	if got := show(t, c); got != want {
		t.Errorf("after a change: %s; before: %s", got, want)
	}
	again, _ := core.Renamed(c, 0)
	c.Kids[0].Data.Kids[0].Text = "D"
	if got := show(t, again); !strings.EqualFold(got, want) {
		t.Errorf("the renamed tree: %s; want %s", got, want)
	}
}
