package macro_test

import (
	"strconv"
	"strings"
	"testing"

	"commonform/api"
	"commonform/core"
	"commonform/forms"
	"commonform/lib"
	"commonform/macro"
	"commonform/reader"
)

type whole struct{ from, to string }

// checkAll expands forms, and their expansions.
func checkAll(t *testing.T, table macro.Table, l []whole) {
	t.Helper()
	w := newWorld(t)
	for _, c := range l {
		got := all(t, w, table, c.from)
		if want := read(t, c.to); !forms.Equal(got, want) {
			t.Errorf("All(%s) = %s\nwant %s", c.from, text(got), text(want))
		}
		if again, _, end := macro.All(w, table, got, 50); end.Kind != lib.EndValues || !forms.Equal(again, got) {
			t.Errorf("All(%s) = %s, %v", text(got), text(again), end)
		}
	}
}

func TestAllSpecialForms(t *testing.T) {
	checkAll(t, macro.New(), []whole{
		{"a", "a"},
		{"nil", "nil"},
		{":a", ":a"},
		{"#(and)", "#(and)"},
		{"'(and)", "'(and)"},
		{"(function and)", "(function and)"},
		{"(function (lambda (a &optional (b (and) c) &rest d &key e ((f g) (and)) &aux (h (and)) (i)) (declare (and)) (and)))",
			"(function (lambda (a &optional (b t c) &rest d &key e ((f g) t) &aux (h t) (i)) (declare (and)) t))"},
		{"((lambda (a) (and)) (or))", "((lambda (a) t) nil)"},
		{"(if (and) (or))", "(if t nil)"},
		{"(if (and) (or) (cond))", "(if t nil nil)"},
		{"(progn (and) (or))", "(progn t nil)"},
		{"(progn)", "(progn)"},
		{"(let (a (b) (c (and))) (declare (and)) (declare d) (or))", "(let (a (b) (c t)) (declare (and)) (declare d) nil)"},
		{"(let* ((a (and)) (b (or))))", "(let* ((a t) (b nil)))"},
		{"(setq)", "(setq)"},
		{"(setq a (and) b (or))", "(setq a t b nil)"},
		{"(block and (and))", "(block and t)"},
		{"(block a (return-from a (and)))", "(block a (return-from a t))"},
		{"(return-from a)", "(return-from a)"},
		{"(tagbody and 1 (and a b) (go and))", "(tagbody and 1 (if a b) (go and))"},
		{"(tagbody (and) (and 1) (or) (and \"a\"))", "(tagbody (progn t) (progn 1) (progn nil) \"a\")"},
		{"(catch (and) (or))", "(catch t nil)"},
		{"(throw (and) (or))", "(throw t nil)"},
		{"(unwind-protect (and) (or) (cond))", "(unwind-protect t nil nil)"},
		{"(multiple-value-call (and) (or))", "(multiple-value-call t nil)"},
		{"(multiple-value-prog1 (and) (or))", "(multiple-value-prog1 t nil)"},
		{"(progv (and) (or) (cond))", "(progv t nil nil)"},
		{"(flet ((f (a &optional (b (and))) (declare (and)) (or)) (g ())) (and))", "(flet ((f (a &optional (b t)) (declare (and)) nil) (g ())) t)"},
		{"(labels ((f () (and))) (declare (and)) (or))", "(labels ((f () t)) (declare (and)) nil)"},
		{"(locally (declare (and)) (or))", "(locally (declare (and)) nil)"},
		{"(the (and) (or))", "(the (and) nil)"},
		{"(load-time-value (and) (or))", "(load-time-value t (or))"},
		{"(load-time-value (and))", "(load-time-value t)"},
		{"(f (and) (or))", "(f t nil)"},
		{"(declare (and))", "(declare t)"},
		{"(p::if (and))", "(p::if t)"},
		{"(p::quote (and))", "(p::quote t)"},
		{"(p::and (and))", "(p::and t)"},
		{"(p::macrolet (and))", "(p::macrolet t)"},
		{"(eval-when (:compile-toplevel eval) (and) (or))", "(progn t nil)"},
		{"(eval-when (:execute) (and))", "(progn t)"},
		{"(eval-when (5 :load-toplevel))", "(progn)"},
		{"(eval-when (load))", "(progn)"},
		{"(eval-when (:compile-toplevel p::eval :load compile) (when) (5))", "nil"},
		{"(eval-when () (and))", "nil"},
	})
}

func TestAllMacros(t *testing.T) {
	checkAll(t, macro.New(), []whole{
		{"(when (and a b) (or c d) (unless e f))", "(if (if a b) (progn (let ((g0 c)) (if g0 g0 d)) (if e nil (progn f))))"},
		{"(or (or a b) (or c d))", "(let ((g0 (let ((g1 a)) (if g1 g1 b)))) (if g0 g0 (let ((g2 c)) (if g2 g2 d))))"},
		{"(lambda (a) (and))", "(function (lambda (a) t))"},
		{"(cond ((and a)) (b c))", "(let ((g0 a)) (if g0 g0 (if b (progn c) nil)))"},
		{"(case a (b c) (t d))", "(let ((g0 a)) (if (eql g0 'b) (progn c) (if t (progn d) nil)))"},
		{"(multiple-value-setq (a b) c)", "(multiple-value-call (function (lambda (&optional g0 g1 &rest g2) (setq a g0 b g1) g0)) c)"},
		{"(defun f (a &optional (b (and))) (and a b))", "(progn (%fset 'f (function (lambda (a &optional (b t)) (block f (if a b))))) 'f)"},
		{"(defmacro m (a) (and a b))", "'m"},
		{"(declaim (special a))", "nil"},
		{"(with-slots (a) b (setq a (and)) a)", "(let ((g0 b)) (locally (setf (slot-value g0 'a) t) (slot-value g0 'a)))"},
		{"(reader::backquote ((reader::comma (and)) (and)))", "(append (list t) (list (append (list 'and) 'nil)) 'nil)"},
		{"(dotimes (i 5) (and))", "(block nil (let ((g0 5) (i 0)) (tagbody g1 (if (< i g0) (progn (tagbody (progn t)) (setq i (+ i 1)) (go g1)))) nil))"},
	})
	checkAll(t, given(), []whole{
		{"(setf (car a) (and))", "(let* ((g0 a) (g1 t)) (progn (rplaca g0 g1) g1))"},
		{"(loop (and))", "(block nil (tagbody g0 (progn t) (go g0)))"},
		{"(with-slots (a) b (setq a 1) (incf a))",
			"(let ((g0 b)) (locally (let* ((g1 g0) (g2 1)) (progn (%set-slot-value g1 'a g2) g2)) (let* ((g3 (+ (slot-value g0 'a) 1))) (let* ((g4 g0) (g5 g3)) (progn (%set-slot-value g4 'a g5) g5)))))"},
		{"(ignore-errors (f))",
			"(block g1 (let* ((g2 nil)) (tagbody (return-from g1 (progv '(%handlers%) (list (cons (list (cons 'error (function (lambda (g4) (setq g2 g4) (go g3))))) (symbol-value '%handlers%))) (progn (f)))) g3 (return-from g1 (let* ((g0 g2)) (values nil g0))))))"},
	})
}

// P22.4: what names mean in their scopes, and nowhere else.
func TestEnvironments(t *testing.T) {
	checkAll(t, macro.New(), []whole{
		{"(flet ((when (x) x)) (when 1))", "(flet ((when (x) x)) (when 1))"},
		{"(flet ((and () (and 1 2))) (and 1 2) (function (lambda () (and))))", "(flet ((and () (if 1 2))) (and 1 2) (function (lambda () (and))))"},
		{"(labels ((and () (and 1 2))) (and 1 2))", "(labels ((and () (and 1 2))) (and 1 2))"},
		{"(progn (flet ((and ())) (and)) (and))", "(progn (flet ((and ())) (and)) t)"},
		{"(flet ((and ()) (or ())) (and) (or))", "(flet ((and ()) (or ())) (and) (or))"},
		{"(labels ((and () (or)) (or () (and))) (and) (or))", "(labels ((and () (or)) (or () (and))) (and) (or))"},
		{"(macrolet ((m () 1) (n () 2)) (m) (n))", "(locally 1 2)"},
		{"(symbol-macrolet ((x 1) (y 2)) x y)", "(locally 1 2)"},
		{"(flet ((p::and ())) (and))", "(flet ((p::and ())) t)"},
		{"(let ((and 1)) (and and and))", "(let ((and 1)) (if and and))"},
		{"(flet ((and ())) (macrolet ((and () 5)) (and)) (and))", "(flet ((and ())) (locally 5) (and))"},
		{"(macrolet ((m () 1)) (flet ((m () (m))) (m)) (m))", "(locally (flet ((m () 1)) (m)) 1)"},
		{"(macrolet ((m () 1)) (labels ((m () (m))) (m)) (m))", "(locally (labels ((m () (m))) (m)) 1)"},
		{"(macrolet ((m () 1)) (macrolet ((m () 2)) (m)) (m))", "(locally (locally 2) 1)"},
		{"(macrolet ((and () 1) (and (x) (list 'car x))) (and 2) (p::and))", "(locally (car 2) (p::and))"},
		{"(macrolet ((if (x) 1) (eval-when () 2)) (if a b) (eval-when ()))", "(locally (if a b) nil)"},
		{"(flet ((if ()) (eval-when ())) (if 1 2) (eval-when (eval)))", "(flet ((if ()) (eval-when ())) (if 1 2) (progn))"},
		{"(symbol-macrolet ((x (car y))) (let ((x x)) x) x)", "(locally (let ((x (car y))) x) (car y))"},
		{"(symbol-macrolet ((x 1)) (let ((y x) (x x) (z x)) x))", "(locally (let ((y 1) (x 1) (z 1)) x))"},
		{"(symbol-macrolet ((x 1)) (let* ((y x) (x x) (z x)) x))", "(locally (let* ((y 1) (x 1) (z x)) x))"},
		{"(symbol-macrolet ((x 1)) (let (x) x) (let* ((x)) x) x)", "(locally (let (x) x) (let* ((x)) x) 1)"},
		{"(symbol-macrolet ((x 1) (y 2) (z 3)) (function (lambda (a &optional (b x) (x y) &rest y &key (c z) (d x z) (e z)) x)))",
			"(locally (function (lambda (a &optional (b 1) (x 2) &rest y &key (c 3) (d x z) (e z)) x)))"},
		{"(symbol-macrolet ((x 1)) (function (lambda (&optional (y x) &key ((:k x) x) &aux (z x)) x)) (function (lambda (&aux (x x)) x)) x)",
			"(locally (function (lambda (&optional (y 1) &key ((:k x) 1) &aux (z x)) x)) (function (lambda (&aux (x 1)) x)) 1)"},
		{"(symbol-macrolet ((x 1)) (flet ((x (y) x) (f (x) x)) x (x x)))", "(locally (flet ((x (y) 1) (f (x) x)) 1 (x 1)))"},
		{"(symbol-macrolet ((x y) (y 2)) x)", "(locally 2)"},
		{"(symbol-macrolet ((x (f y))) (symbol-macrolet ((y 2)) x (let ((y 3)) x)))", "(locally (locally (f 2) (let ((y 3)) (f y))))"},
		{"(symbol-macrolet ((x 1)) (symbol-macrolet ((x 2)) x) x 'x (function x) (block x (return-from x x)) (tagbody x (go x)) (the x x))",
			"(locally (locally 2) 1 'x (function x) (block x (return-from x 1)) (tagbody x (go x)) (the x 1))"},
		{"(symbol-macrolet ((x (and))) (declare (special x)) x)", "(locally (declare (special x)) t)"},
		{"(symbol-macrolet ((x 1)) p::x)", "(locally p::x)"},
		{"(symbol-macrolet ((x 1)) (multiple-value-bind (x) (f x) x) (dolist (x x) x) (do ((x x)) (x)))",
			"(locally (multiple-value-call (function (lambda (&optional x &rest g0) x)) (f 1))" +
				" (block nil (let ((g1 1) (x nil)) (tagbody g2 (if g1 (progn (setq x (car g1)) (tagbody x) (setq g1 (cdr g1)) (go g2)))) (setq x nil) nil))" +
				" (block nil (let ((x 1)) (tagbody g3 (if x (return-from nil (progn))) (let nil (setq) nil) (go g3)))))"},
	})
}

// A symbol macro that is set is written.
func TestSetSymbolMacros(t *testing.T) {
	checkAll(t, macro.New(), []whole{
		{"(symbol-macrolet ((x (car y))) (setq x 1))", "(locally (setf (car y) 1))"},
		{"(symbol-macrolet ((x (car y))) (setq a x x (and) b 2))", "(locally (progn (setq a (car y)) (setf (car y) t) (setq b 2)))"},
		{"(symbol-macrolet ((x (car y))) (setq a x) (let (x) (setq x 1)))", "(locally (setq a (car y)) (let (x) (setq x 1)))"},
	})
	checkAll(t, given(), []whole{
		{"(symbol-macrolet ((x (car y))) (setq x 1))", "(locally (let* ((g0 y) (g1 1)) (progn (rplaca g0 g1) g1)))"},
		{"(symbol-macrolet ((x y) (y z)) (setq x 1))", "(locally (setq z 1))"},
		{"(symbol-macrolet ((x (car y))) (psetq x 1))", "(locally (let ((g0 1)) (let* ((g1 y) (g2 g0)) (progn (rplaca g1 g2) g2)) nil))"},
	})
}

// refused tells the code with which an expansion ends.
func refused(t *testing.T, w *lib.World, table macro.Table, f api.Form) api.Errno {
	t.Helper()
	got, next, end := macro.All(w, table, f, 0)
	if end.Kind == lib.EndValues {
		return api.OK
	}
	if end.Kind != lib.EndBad || next != 0 || got.Kind != 0 {
		t.Errorf("All(%s) = %s, %d, %v", text(f), text(got), next, end)
	}
	return end.Code
}

func TestAllErrors(t *testing.T) {
	w := newWorld(t)
	for _, s := range []string{
		"(quote)", "(quote a b)", "(quote . a)", "(function)", "(function 5)", "(function nil)", "(function :a)", "(function (setf a))", "(function (lambda))", "(function (lambda 5))", "(function (lambda (5)))",
		"(function (lambda (a . b)))", "(function (lambda ((a))))", "(function (lambda (&whole a)))", "(flet ((f (&optional ((a))))))", "(function ((lambda ())))", "(function a b)", "(function (f ()))", "((f ()) b)", "((p::lambda ()) b)", "(if)", "(if a)", "(if a b c d)", "(if a . b)", "(let)", "(let 5)", "(let (5))", "(let (nil))", "(let ((a b c)))", "(let (()))", "(let ((5 1)))", "(let* ((:a 1)))", "(let ((a . b)))",
		"(setq a)", "(setq 5 1)", "(setq nil 1)", "(setq (a) 1)", "(block)", "(block 5)", "(return-from)", "(return-from 5)", "(return-from a b c)", "(go)", "(go (a))", "(go a b)", "(go \"a\")",
		"(catch)", "(throw)", "(throw a)", "(throw a b c)", "(unwind-protect)", "(multiple-value-call)", "(multiple-value-prog1)", "(progv)", "(progv a)",
		"(flet)", "(flet 5)", "(flet (f))", "(flet ((f)))", "(flet ((5 ())))", "(flet ((nil ())))", "(flet ((f 5)))", "(labels ((:f ())))", "(labels ((f () . a)))", "(the)", "(the a)", "(the a b c)", "(load-time-value)", "(load-time-value a b c)",
		"(macrolet)", "(macrolet 5)", "(macrolet (m))", "(macrolet ((m)))", "(macrolet ((5 ())))", "(macrolet ((m 5)))", "(macrolet ((m () (when))))", "(symbol-macrolet)", "(symbol-macrolet (x))", "(symbol-macrolet ((x)))", "(symbol-macrolet ((x 1 2)))",
		"(symbol-macrolet ((5 1)))", "(symbol-macrolet ((nil 1)))", "(symbol-macrolet ((:a 1)))", "(symbol-macrolet . 5)", "(eval-when)", "(eval-when 5)", "(eval-when (eval . load))", "(eval-when eval)",
		"(5)", "(nil)", "(t 1)", "(:a)", "(\"a\")", "((a) b)", "((lambda) b)", "(f . a)", "(f a . b)", "(f (when))", "(f (5))", "(prog (5))",
		"(progn (defmacro m ()))", "(let () (declaim))", "(locally (defmacro m ()))", "(eval-when (eval) (declaim))", "(macrolet () (defmacro m ()))", "(f (declaim))",
		"(let () a (declare b))", "(let () (macrolet () (declare a)) 1 (declare b))", "(locally a (declare (b)))", "(function (lambda () a (declare b)))", "(flet ((f () a (declare b))))", "(flet () a (declare b))", "(symbol-macrolet () a (declare b))",
		"(macrolet ((m () ''(declare a)) (n () '(declare a))) (let () (n)))", "(symbol-macrolet ((x (declare a))) (locally x))",
		"#1=a", "(f #1=(a) #1#)", "'#1=(a . #1#)", "(progn #1=(and) #1#)", "(and #1=(f) #1#)", "(let ((a '#1=(b))) (and '#1# 1))", "(defmethod f (a &optional (b '#1=(c . #1#))))",
	} {
		if e := refused(t, w, macro.New(), read(t, s)); e != api.ErrForm {
			t.Errorf("All(%s): %v; want ErrForm", s, e)
		}
	}
	for s, want := range map[string]api.Errno{
		"(function (lambda (a a)))":                  api.ErrTwice,
		"(flet ((f (&key a ((:a b))))))":             api.ErrTwice,
		"(macrolet ((m (a (a)))))":                   api.ErrTwice,
		"(macrolet ((m () (go a))))":                 core.ErrScope,
		"(macrolet ((m () (declare 5))))":            core.ErrDeclare,
		"(reader::backquote (reader::splice))":       api.ErrForm,
		"(f (reader::backquote (reader::splice a)))": reader.ErrComma,
		"(let ((a 1) (a 2)))":                        api.OK,
		"(go a)":                                     api.OK,
		"(locally (declare 5))":                      api.OK,
	} {
		if e := refused(t, w, macro.New(), read(t, s)); e != want {
			t.Errorf("All(%s): %v; want %v", s, e, want)
		}
	}
	// An expander is not asked for what refers to a label outside of it.
	if e := refused(t, w, given(), read(t, "(f '#1=(a) (setf x #1#))")); e != api.ErrForm {
		t.Errorf("a reference in a call of SETF: %v", e)
	}
	for _, f := range []api.Form{{}, {Kind: api.FormCons}, {Kind: api.FormRef, Text: "1"}, {Kind: 77}, forms.List([]api.Form{{}})} {
		if e := refused(t, w, macro.New(), f); e != api.ErrForm {
			t.Errorf("All(%v): %v; want ErrForm", f, e)
		}
	}
}

// nested puts a form into so many calls.
func nested(f api.Form, n int, name string) api.Form {
	for range n {
		f = forms.Call(name, []api.Form{f})
	}
	return f
}

func many(n int, f api.Form) []api.Form {
	var l []api.Form
	for range n {
		l = append(l, f)
	}
	return l
}

func TestAllLimits(t *testing.T) {
	w := newWorld(t)
	atom := forms.Nil()
	call := forms.Call("AND", nil)
	grows := func(n int) api.Form { return forms.Call("PROGN", many(n, forms.Call("RETURN", nil))) }
	for _, c := range []struct {
		what string
		form api.Form
		e    api.Errno
	}{
		{"99 lists", nested(atom, 99, "PROGN"), api.OK},
		{"100 lists", nested(atom, 100, "PROGN"), api.ErrDepth},
		{"200 lists", nested(atom, 200, "AND"), api.ErrDepth},
		{"a form that becomes too deep", nested(forms.Call("WHEN", []api.Form{atom, atom}), 97, "PROGN"), api.OK},
		{"a form that becomes too deep by one", nested(forms.Call("WHEN", []api.Form{atom, atom}), 98, "PROGN"), api.ErrDepth},
		{"a constant that becomes too deep", nested(forms.Call("WHEN", []api.Form{atom, forms.Call("QUOTE", []api.Form{forms.List([]api.Form{atom})})}), 97, "PROGN"), api.ErrDepth},
		{"2000 nodes", forms.Call("PROGN", many(1997, atom)), api.OK},
		{"2001 nodes", forms.Call("PROGN", many(1998, atom)), api.ErrSize},
		{"a form that becomes too large", grows(399), api.OK},
		{"a form that becomes too large by two", grows(400), api.ErrSize},
		{"too deep and too large", forms.Call("PROGN", append(many(1998, atom), nested(atom, 100, "PROGN"))), api.ErrSize},
		{"large and as deep as may be", forms.Call("PROGN", append([]api.Form{nested(atom, 98, "PROGN")}, many(1990, atom)...)), api.ErrSize},
		{"too large behind too deep", forms.Call("PROGN", append([]api.Form{nested(atom, 100, "PROGN")}, many(1998, atom)...)), api.ErrDepth},
		{"500 calls", forms.Call("PROGN", many(500, call)), api.OK},
	} {
		if e := refused(t, w, macro.New(), c.form); e != c.e {
			t.Errorf("%s: %v; want %v", c.what, e, c.e)
		}
	}
}

// expanding adds an expander to a table: its calls are expanded to a form that is made of their arguments.
func expanding(t macro.Table, name string, expand func(args []api.Form) api.Form) macro.Table {
	t.Expanders = append(t.Expanders, macro.Named{Name: name, Expand: func(f api.Form, fresh int) (api.Form, int, api.Errno) {
		l, _ := forms.Items(f)
		return expand(l[1:]), fresh, api.OK
	}})
	return t
}

// Just 1000 calls are expanded; a symbol macro that is replaced counts as one.
func TestAllCalls(t *testing.T) {
	w := newWorld(t)
	table := expanding(macro.New(), "DOWN", func(args []api.Form) api.Form {
		n, _ := strconv.Atoi(args[0].Text)
		if n <= 1 {
			return forms.Nil()
		}
		return forms.Call("DOWN", []api.Form{{Kind: api.FormInt, Text: strconv.Itoa(n - 1)}})
	})
	table = expanding(table, "GROW", func(args []api.Form) api.Form {
		return forms.Call("GROW", append(args, args[0], args[0], args[0]))
	})
	table = expanding(table, "TWICE", func(args []api.Form) api.Form {
		return forms.Call("PROGN", append(args, args...))
	})
	table = expanding(table, "AGAIN", func([]api.Form) api.Form { return read(t, "(macrolet ((n () (again))) 1)") })
	for s, want := range map[string]api.Errno{
		"(down 1000)":                                     api.OK,
		"(down 1001)":                                     api.ErrDepth,
		"(f (down 600) (down 400))":                       api.OK,
		"(f (down 600) (down 401))":                       api.ErrDepth,
		"(symbol-macrolet ((x 1)) (down 998) x x)":        api.OK,
		"(symbol-macrolet ((x 1)) (down 999) x x)":        api.ErrDepth,
		"(symbol-macrolet ((x 1)) (down 999) (setq x 1))": api.OK,
		"(symbol-macrolet ((x 1)) (down 999) (setq x x))": api.ErrDepth,
		"(symbol-macrolet ((x x)) x)":                     api.ErrDepth,
		"(symbol-macrolet ((x (f x))) x)":                 api.ErrDepth,
		"(macrolet ((m () '(m))) (m))":                    api.ErrDepth,
		"(macrolet ((m () '(f (m)))) (m))":                api.ErrDepth,
		"(macrolet ((m () (down 600))) (down 400))":       api.OK,
		"(macrolet ((m () (down 600))) (down 401))":       api.ErrDepth,
		"(grow 1)": api.ErrSize,
		"(again)":  api.ErrDepth,
		"(twice (twice (twice (twice (twice (twice (twice (twice (twice 1)))))))))":         api.ErrSize,
		"(twice (twice (twice (twice (twice (twice (twice (twice 1))))))))":                 api.OK,
		"(twice (twice (twice (twice (twice (twice (twice (twice (twice (twice 1))))))))))": api.ErrDepth,
	} {
		if e := refused(t, w, table, read(t, s)); e != want {
			t.Errorf("All(%s): %v; want %v", s, e, want)
		}
	}
	set := "(symbol-macrolet ((x x)) (setq x 1))"
	if e := refused(t, w, given(), read(t, set)); e != api.ErrDepth {
		t.Errorf("All(%s): %v", set, e)
	}
}

// A form is too deep when it is met, whatever it might be expanded to; the depth is that of the form in which it stands.
func TestAllDepth(t *testing.T) {
	w := newWorld(t)
	for s, adds := range map[string]int{
		"(f (again))": 1, "(progn a (again))": 1, "(if a b (again))": 1, "(setq a (again))": 1, "(tagbody a (again))": 1, "(block a (again))": 1, "(the a (again))": 1, "(load-time-value (again))": 1, "(locally (again))": 1,
		"(let ((v (again))))": 3, "(let* (u (v (again))))": 3, "(let (v) (again))": 1, "(let* () (declare (a)) (again))": 1, "((lambda () (again)))": 2, "((lambda (&optional (v (again)))))": 4, "(f ((lambda ()) (again)))": 2,
		"(function (lambda () (again)))": 2, "(function (lambda (&key (v (again) u))))": 4, "(flet ((f () (again))))": 3, "(flet ((f (&aux (v (again))))))": 5, "(labels () (again))": 1, "(labels ((f (a &optional b) c (again))))": 3,
		"(macrolet () (again))": 1, "(symbol-macrolet () (again))": 1, "(symbol-macrolet ((x (again))) x)": 1, "(eval-when (eval) (again))": 1, "(symbol-macrolet ((x y)) (setq a 1 x (again)))": 3, "(symbol-macrolet ((x y)) (setq x (again)))": 2,
	} {
		calls := 0
		table := expanding(macro.New(), "AGAIN", func([]api.Form) api.Form {
			calls++
			return read(t, s)
		})
		if e := refused(t, w, table, read(t, "(again)")); e != api.ErrDepth || calls != 1+99/adds {
			t.Errorf("%s again and again: %v, %d calls", s, e, calls)
		}
	}
}

// A result shares no memory with the arguments, and changes none of them.
func TestAllMemory(t *testing.T) {
	w := newWorld(t)
	source := "(progn '(a b) (and (f '(c))) (symbol-macrolet ((x '(d))) x x) (let ((y '(e))) (declare (f)) (function (lambda (&optional (z '(g)))))))"
	f := read(t, source)
	got, _, end := macro.All(w, macro.New(), f, 0)
	if end.Kind != lib.EndValues || !forms.Equal(f, read(t, source)) {
		t.Fatalf("%v; the form has become %s", end, text(f))
	}
	want := text(got)
	spoil(f)
	if text(got) != want {
		t.Errorf("the result has become %s", text(got))
	}
	spoil(got.Kids[3].Kids[1])
	if last := text(got.Kids[3].Kids[2]); last != "'(d)" {
		t.Errorf("with one use of a symbol macro the other one has become %s", last)
	}
}

// Without user macros no world is needed.
func TestAllWithoutWorld(t *testing.T) {
	if f, _, end := macro.All(nil, given(), read(t, "(when a (setf b c))"), 0); end.Kind != lib.EndValues || text(f) != "(if a (progn (setq b c)))" {
		t.Errorf("%s, %v", text(f), end)
	}
	if e := refused(t, nil, macro.New(), read(t, "(macrolet ((m () 1)) (m))")); e != api.ErrArg {
		t.Errorf("a user macro without a world: %v", e)
	}
	if f, next, end := macro.All(nil, macro.New(), read(t, "(or a b)"), -1); text(f) != strings.ReplaceAll("(let ((V a)) (if V V b))", "V", text(forms.Symbol("%", "-1"))) || next != 0 || end.Kind != lib.EndValues {
		t.Errorf("from -1 on: %s, %d, %v", text(f), next, end)
	}
}
