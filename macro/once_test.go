package macro_test

import (
	"slices"
	"testing"

	"commonform/api"
	"commonform/forms"
	"commonform/macro"
	"commonform/reader"
)

// once expands a form once, with the fresh variables from 0 on.
func once(t *testing.T, s string) (string, int, api.Errno) {
	t.Helper()
	f, next, is, e := macro.Once(macro.New(), read(t, s), 0)
	if e != api.OK {
		if is || next != 0 || f.Kind != 0 {
			t.Errorf("Once(%s) with an error returns %s, %d, %v", s, text(f), next, is)
		}
		return "", 0, e
	}
	if !is {
		t.Errorf("Once(%s) is no call of a macro", s)
	}
	return text(f), next, e
}

type expansion struct {
	from, to string
	next     int
}

func checkOnce(t *testing.T, l []expansion) {
	t.Helper()
	for _, c := range l {
		got, next, e := once(t, c.from)
		if want := text(read(t, c.to)); e != api.OK || got != want || next != c.next {
			t.Errorf("Once(%s) = %s, %d, %v\nwant %s, %d", c.from, got, next, e, want, c.next)
		}
	}
}

func TestOnceControl(t *testing.T) {
	checkOnce(t, []expansion{
		{"(lambda (x) y z)", "(function (lambda (x) y z))", 0},
		{"(lambda 5)", "(function (lambda 5))", 0},
		{"(when a)", "(if a (progn))", 0},
		{"(when a b c)", "(if a (progn b c))", 0},
		{"(unless a b)", "(if a nil (progn b))", 0},
		{"(and)", "t", 0},
		{"(and a)", "a", 0},
		{"(and a b c)", "(if a (and b c))", 0},
		{"(or)", "nil", 0},
		{"(or a)", "a", 0},
		{"(or a b c)", "(let ((g0 a)) (if g0 g0 (or b c)))", 1},
		{"(cond)", "nil", 0},
		{"(cond (a) (b c))", "(or a (cond (b c)))", 0},
		{"(cond (a b c) (d))", "(if a (progn b c) (cond (d)))", 0},
		{"(prog1 a)", "(let ((g0 a)) g0)", 1},
		{"(prog1 a b c)", "(let ((g0 a)) b c g0)", 1},
		{"(prog2 a b c)", "(progn a (prog1 b c))", 0},
		{"(return)", "(return-from nil nil)", 0},
		{"(return a)", "(return-from nil a)", 0},
		{"(psetq)", "(let () (setq) nil)", 0},
		{"(psetq a b c d)", "(let ((g0 b) (g1 d)) (setq a g0 c g1) nil)", 2},
	})
}

func TestOnceCases(t *testing.T) {
	checkOnce(t, []expansion{
		{"(case a)", "(let ((g0 a)) (cond))", 1},
		{"(case a (1 b c) ((d e) f) (nil g) (t))", "(let ((g0 a)) (cond ((eql g0 '1) b c) ((or (eql g0 'd) (eql g0 'e)) f) ((or) g) (t nil)))", 1},
		{"(case a (otherwise 1))", "(let ((g0 a)) (cond (t 1)))", 1},
		{"(case a (t 1) (otherwise 2) ((t) 3))", "(let ((g0 a)) (cond ((eql g0 't) 1) ((eql g0 'otherwise) 2) ((or (eql g0 't)) 3)))", 1},
		{"(case a ((b . c) 1))", "(let ((g0 a)) (cond ((eql g0 '(b . c)) 1)))", 1},
		{"(case a (:otherwise 1))", "(let ((g0 a)) (cond ((eql g0 ':otherwise) 1)))", 1},
		{"(typecase a (integer 1) ((or b c)) (t 2))", "(let ((g0 a)) (cond ((typep g0 'integer) 1) ((typep g0 '(or b c)) nil) (t 2)))", 1},
		{"(typecase a (t 1) (nil 2))", "(let ((g0 a)) (cond ((typep g0 't) 1) ((typep g0 'nil) 2)))", 1},
		{"(typecase a (otherwise))", "(let ((g0 a)) (cond (t nil)))", 1},
	})
}

func TestOnceLoops(t *testing.T) {
	checkOnce(t, []expansion{
		{"(do () (a))", "(block nil (let () (tagbody g0 (if a (return-from nil (progn))) (psetq) (go g0))))", 1},
		{"(do (u (v) (w 1) (x 2 3) (y 4 5)) (a b c) (declare d) (declare e) f 6 (declare g))",
			"(block nil (let (u v (w 1) (x 2) (y 4)) (declare d) (declare e) (tagbody g0 (if a (return-from nil (progn b c))) f 6 (declare g) (psetq x 3 y 5) (go g0))))", 1},
		{"(do* ((x 2 3) (y 4 5)) (a) f)", "(block nil (let* ((x 2) (y 4)) (tagbody g0 (if a (return-from nil (progn))) f (setq x 3 y 5) (go g0))))", 1},
		{"(prog (a (b c) 5) (declare d) e f)", "(block nil (let (a (b c) 5) (declare d) (tagbody e f)))", 0},
		{"(prog* () f)", "(block nil (let* () (tagbody f)))", 0},
		{"(dolist (v a) (declare d) b c)",
			"(block nil (let ((g0 a) (v nil)) (declare d) (tagbody g1 (if g0 (progn (setq v (car g0)) (tagbody b c) (setq g0 (cdr g0)) (go g1)))) (setq v nil) nil))", 2},
		{"(dolist (v a r))", "(block nil (let ((g0 a) (v nil)) (tagbody g1 (if g0 (progn (setq v (car g0)) (tagbody) (setq g0 (cdr g0)) (go g1)))) (setq v nil) r))", 2},
		{"(dotimes (v a r) (declare d) b)",
			"(block nil (let ((g0 a) (v 0)) (declare d) (tagbody g1 (if (< v g0) (progn (tagbody b) (setq v (+ v 1)) (go g1)))) r))", 2},
		{"(dotimes (v a))", "(block nil (let ((g0 a) (v 0)) (tagbody g1 (if (< v g0) (progn (tagbody) (setq v (+ v 1)) (go g1)))) nil))", 2},
	})
}

func TestOnceValues(t *testing.T) {
	checkOnce(t, []expansion{
		{"(multiple-value-bind (a b) c (declare d) e)", "(multiple-value-call (function (lambda (&optional a b &rest g0) (declare d) e)) c)", 1},
		{"(multiple-value-bind () c)", "(multiple-value-call (function (lambda (&optional &rest g0))) c)", 1},
		{"(multiple-value-list a)", "(multiple-value-call (function list) a)", 0},
		{"(multiple-value-setq (a b) c)", "(multiple-value-bind (g0 g1) c (setq a g0 b g1) g0)", 2},
		{"(multiple-value-setq () c)", "(prog1 c)", 0},
		{"(nth-value n a)", "(nth n (multiple-value-list a))", 0},
		{"(reader::backquote (a (reader::comma b) (reader::splice c)))", "(append (list 'a) (list b) c 'nil)", 0},
		{"(reader::backquote x)", "'x", 0},
	})
}

func TestOnceDefinitions(t *testing.T) {
	checkOnce(t, []expansion{
		{"(defun f (a) \"doc\" (declare b) c d)", "(progn (%fset 'f (function (lambda (a) (declare b) (block f c d)))) 'f)", 0},
		{"(defun f 5)", "(progn (%fset 'f (function (lambda 5 (block f)))) 'f)", 0},
		{"(defun f () \"value\")", "(progn (%fset 'f (function (lambda () (block f \"value\")))) 'f)", 0},
		{"(defun f () (declare b) \"value\" c)", "(progn (%fset 'f (function (lambda () (declare b) (block f \"value\" c)))) 'f)", 0},
		{"(defun (setf p::f) (v) v)", "(progn (%fset 'p::|(SETF F)| (function (lambda (v) (block p::f v)))) 'p::|(SETF F)|)", 0},
		{"(defvar a)", "'a", 0},
		{"(defvar a b)", "(progn (if (boundp 'a) nil (set 'a b)) 'a)", 0},
		{"(defvar a b \"doc\")", "(progn (if (boundp 'a) nil (set 'a b)) 'a)", 0},
		{"(defparameter a b)", "(progn (set 'a b) 'a)", 0},
		{"(defconstant a b \"doc\")", "(progn (set 'a b) 'a)", 0},
		{"(defmacro m 5 . nil)", "'m", 0},
		{"(declaim)", "nil", 0},
		{"(declaim 1 2)", "nil", 0},
	})
}

func TestOnceClasses(t *testing.T) {
	checkOnce(t, []expansion{
		{"(defclass a () ())", "(progn (%defclass 'a 'nil (list)) 'a)", 2},
		{"(defclass a (b c) (d (e)) (f g) 5)", "(progn (%defclass 'a '(b c) (list (list 'd 'nil nil nil) (list 'e 'nil nil nil))) 'a)", 2},
		{"(defclass a () ((b :initarg :c :initform (d) :allocation :class :type 5 :documentation 6) (e :allocation :instance)))",
			"(progn (%defclass 'a 'nil (list (list 'b ':c (function (lambda () (d))) t) (list 'e 'nil nil nil))) 'a)", 2},
		{"(defclass a () ((b :accessor c :reader d) (e :reader f)))",
			"(progn (%defclass 'a 'nil (list (list 'b 'nil nil nil) (list 'e 'nil nil nil)))" +
				" (defmethod c ((g0 a)) (slot-value g0 'b)) (defmethod (setf c) (g0 (g1 a)) (%set-slot-value g1 'b g0))" +
				" (defmethod d ((g0 a)) (slot-value g0 'b)) (defmethod f ((g0 a)) (slot-value g0 'e)) 'a)", 2},
		{"(defclass a () ((b :initarg c :initarg d :allocation :instance :allocation :class :initform 1 :initform 2)))",
			"(progn (%defclass 'a 'nil (list (list 'b 'c (function (lambda () 1)) nil))) 'a)", 2},
		{"(defgeneric f (a b &optional c))", "(progn (%defgeneric 'f 'standard 2) (%fset 'f (function (lambda (&rest g0) (%call-generic 'f g0)))) 'f)", 1},
		{"(defgeneric (setf f) () (:documentation 1) (:method-combination +) (a))",
			"(progn (%defgeneric '|(SETF F)| '+ 0) (%fset '|(SETF F)| (function (lambda (&rest g0) (%call-generic '|(SETF F)| g0)))) '|(SETF F)|)", 1},
		{"(defgeneric f () (:method-combination a) (:method-combination b))", "(progn (%defgeneric 'f 'a 0) (%fset 'f (function (lambda (&rest g0) (%call-generic 'f g0)))) 'f)", 1},
		{"(with-slots (a b) c (declare d) e)", "(let ((g0 c)) (symbol-macrolet ((a (slot-value g0 'a)) (b (slot-value g0 'b))) (declare d) e))", 1},
		{"(with-slots () c)", "(let ((g0 c)) (symbol-macrolet ()))", 1},
	})
}

func TestOnceMethods(t *testing.T) {
	local := "((call-next-method (&rest g2) (if g0 (apply g0 (if g2 g2 g1)) (%no-next-method))) (next-method-p () (if g0 t nil)))"
	checkOnce(t, []expansion{
		{"(defmethod f () 1)",
			"(progn (if (%generic-p 'f) nil (defgeneric f ())) (%defmethod 'f 'nil (list) (function (lambda (g0 &rest g1) (flet " + local + " (apply (function (lambda () (block f 1))) g1))))) 'f)", 3},
		{"(defmethod f :before and (a (b c) (d (eql (e))) &optional (x 1)) (declare y) \"text\" z)",
			"(progn (if (%generic-p 'f) nil (defgeneric f (a b d &optional (x 1)))) (%defmethod 'f '(:before and) (list 't 'c (list 'eql (e)))" +
				" (function (lambda (g0 &rest g1) (flet " + local + " (apply (function (lambda (a b d &optional (x 1)) (declare y) (block f \"text\" z))) g1))))) 'f)", 3},
		{"(defmethod (setf f) (v (a t)))",
			"(progn (if (%generic-p '|(SETF F)|) nil (defgeneric |(SETF F)| (v a))) (%defmethod '|(SETF F)| 'nil (list 't 't)" +
				" (function (lambda (g0 &rest g1) (flet " + local + " (apply (function (lambda (v a) (block f))) g1))))) '|(SETF F)|)", 3},
	})
}

// The bindings of DESTRUCTURING-BIND are those of lambda.
func TestOnceDestructuring(t *testing.T) {
	f, next, is, e := macro.Once(macro.New(), read(t, "(destructuring-bind (a (b)) x (declare d) e)"), 5)
	if e != api.OK || !is || next < 8 {
		t.Fatalf("%s, %d, %v, %v", text(f), next, is, e)
	}
	inner := f.Kids[2]
	inner.Kids[1] = forms.Nil()
	f.Kids[2] = inner
	if got, want := text(f), text(read(t, "(let ((g5 x)) (let* () (declare d) e))")); got != want {
		t.Errorf("%s; want %s", got, want)
	}
}

func TestOnceErrors(t *testing.T) {
	for _, s := range []string{
		"(lambda)", "(when)", "(unless)", "(prog1)", "(prog2 a)", "(return a b)", "(psetq a)", "(psetq 1 2)", "(psetq nil 2)", "(psetq :a 2)", "(psetq &rest 2)",
		"(cond a)", "(cond nil)", "(cond (a b) nil)", "(cond (a . b))", "(case)", "(case a b)", "(case a nil)", "(typecase)", "(typecase a (b . c))",
		"(do)", "(do ())", "(do () nil)", "(do () a)", "(do (nil) (a))", "(do ((a 1 2 3)) (b))", "(do (5) (b))", "(do ((5 1)) (b))", "(do a (b))", "(do* ((t 1)) (b))",
		"(prog)", "(prog a)", "(prog* 5)", "(prog (a . b))", "(dolist)", "(dolist v)", "(dolist (v))", "(dolist (v a b c))", "(dolist (5 a))", "(dotimes (nil 5))", "(dotimes (v . a))",
		"(multiple-value-bind)", "(multiple-value-bind (a))", "(multiple-value-bind a b)", "(multiple-value-bind (5) b)", "(multiple-value-list)", "(multiple-value-list a b)",
		"(multiple-value-setq (a))", "(multiple-value-setq (a) b c)", "(multiple-value-setq (t) b)", "(nth-value 1)", "(nth-value 1 2 3)",
		"(defun)", "(defun f)", "(defun 5 ())", "(defun (setf) ())", "(defun (setf f g) ())", "(defun (setf 5) ())", "(defun (p::setf f) ())",
		"(defvar)", "(defvar 5)", "(defvar nil 1)", "(defvar a 1 \"b\" c)", "(defvar a 1 2)", "(defparameter a)", "(defparameter :a 1)", "(defconstant a 1 b)", "(defmacro)", "(defmacro 5 ())", "(defmacro (setf f) ())",
		"(destructuring-bind)", "(destructuring-bind a)", "(destructuring-bind 5 x)", "(destructuring-bind (&key 5) x)",
		"(defclass)", "(defclass a ())", "(defclass 5 () ())", "(defclass a (5) ())", "(defclass a b ())", "(defclass a () b)", "(defclass a () (5))", "(defclass a () ((b :initarg)))",
		"(defclass a () ((b :initarg 5)))", "(defclass a () ((b :allocation class)))", "(defclass a () ((b :allocation :each)))", "(defclass a () ((b :writer c)))", "(defclass a () ((b initarg c)))", "(defclass a () ((b 5 c)))",
		"(defclass a () ((b :reader (c))))", "(defclass a () ((b :accessor 5)))", "(defclass a () ((5 :reader c)))",
		"(defgeneric)", "(defgeneric f)", "(defgeneric 5 ())", "(defgeneric f 5)", "(defgeneric f (5))", "(defgeneric f ((a b)))", "(defgeneric f () a)", "(defgeneric f () nil)",
		"(defgeneric f () (:method-combination))", "(defgeneric f () (:method-combination a b))", "(defgeneric f () (:method-combination 5))", "(defgeneric f () (:method-combination a) (:method-combination 5))",
		"(defmethod)", "(defmethod f)", "(defmethod f :before)", "(defmethod 5 ())", "(defmethod f 5 ())", "(defmethod f (5))", "(defmethod f ((a)))", "(defmethod f ((a b c)))", "(defmethod f ((5 b)))", "(defmethod f ((&optional c) x))", "(defmethod f ((&rest c) x))",
		"(defmethod f ((a 5)))", "(defmethod f ((a (eql))))", "(defmethod f ((a (eql 1 2))))", "(defmethod f ((a (equal 1))))", "(defmethod f (&optional ((a b))))", "(defmethod f (a . b))", "(defmethod f (&whole a))",
		"(with-slots)", "(with-slots ())", "(with-slots (5) a)", "(with-slots ((a b)) c)", "(with-slots a b)", "(reader::backquote)", "(reader::backquote a b)", "(reader::backquote (reader::comma a b))",
		"(when . a)", "(and a . b)", "(or a b . c)", "(declaim . a)",
	} {
		if got, _, e := once(t, s); e != api.ErrForm {
			t.Errorf("Once(%s) = %s, %v; want ErrForm", s, got, e)
		}
	}
	for s, want := range map[string]api.Errno{
		"(reader::backquote (reader::splice a))":        reader.ErrComma,
		"(reader::backquote #1=(a . #1#))":              forms.ErrLabel,
		"(destructuring-bind (a a) x)":                  api.ErrTwice,
		"(defgeneric f (a a))":                          api.ErrTwice,
		"(defmethod f ((a b) (a c)))":                   api.ErrTwice,
		"(defmethod f (a &optional (b '#1=(c . #1#))))": api.ErrForm,
	} {
		if got, _, e := once(t, s); e != want {
			t.Errorf("Once(%s) = %s, %v; want %v", s, got, e, want)
		}
	}
}

// A form that is no call of a macro comes back as it is.
func TestOnceOther(t *testing.T) {
	table := given()
	table.Macros = []macro.Macro{{Name: read(t, "when")}}
	for _, s := range []string{"a", "nil", "5", "\"a\"", "#(when a)", "(car a)", "(if a b)", "(macrolet ())", "(symbol-macrolet 5)", "(eval-when)", "(quote (and))", "((lambda ()) and)", "(5)", "(a . b)", "(when a)", "(p::and)", "(backquote x)", "(reader::comma x)", "(:and)"} {
		f := read(t, s)
		got, next, is, e := macro.Once(table, f, 7)
		if e != api.OK || is || next != 7 || !forms.Equal(got, f) {
			t.Errorf("Once(%s) = %s, %d, %v, %v", s, text(got), next, is, e)
		}
	}
	for _, c := range []struct {
		form api.Form
		e    api.Errno
	}{
		{api.Form{}, api.ErrForm},
		{api.Form{Kind: api.FormCons}, api.ErrForm},
		{api.Form{Kind: api.FormRef, Text: "1"}, forms.ErrLabel},
		{read(t, "(and #1=a b)"), api.OK},
	} {
		if _, _, _, e := macro.Once(table, c.form, 0); e != c.e {
			t.Errorf("Once(%s): %v; want %v", text(c.form), e, c.e)
		}
	}
}

func TestOnceExpanders(t *testing.T) {
	table := macro.New()
	add := func(name string, expand macro.Expander) {
		table.Expanders = append(table.Expanders, macro.Named{Name: name, Expand: expand})
	}
	gives := func(s string, e api.Errno) macro.Expander {
		return func(f api.Form, fresh int) (api.Form, int, api.Errno) { return read(t, s), fresh + 10, e }
	}
	add("WHEN", gives("(first)", api.OK))
	add("WHEN", gives("(second)", api.OK))
	add("IF", gives("(special)", api.OK))
	add("BAD", gives("(bad)", api.ErrOrder))
	add("TWICE", func(f api.Form, fresh int) (api.Form, int, api.Errno) {
		part := read(t, "#1=(a)")
		return forms.List([]api.Form{part, part}), fresh, api.OK
	})
	add("WRONG", func(api.Form, int) (api.Form, int, api.Errno) { return api.Form{}, 0, api.OK })
	add("NONE", nil)
	add("PANIC", func(api.Form, int) (api.Form, int, api.Errno) { panic("no") })
	add("SPOIL", func(f api.Form, fresh int) (api.Form, int, api.Errno) {
		f.Kids[0] = api.Form{}
		return read(t, "(spoiled)"), fresh, api.OK
	})
	for _, c := range []struct {
		from, to string
		next     int
		is       bool
		e        api.Errno
	}{
		{"(when 1 . 2)", "(first)", 13, true, api.OK},
		{"(if 1)", "(if 1)", 3, false, api.OK},
		{"(p::when)", "(p::when)", 3, false, api.OK},
		{"(bad)", "", 0, false, api.ErrOrder},
		{"(twice)", "", 0, false, api.ErrForm},
		{"(wrong)", "", 0, false, api.ErrForm},
		{"(none)", "", 0, false, api.ErrArg},
		{"(panic)", "", 0, false, api.ErrArg},
		{"(spoil)", "(spoiled)", 3, true, api.OK},
	} {
		f := read(t, c.from)
		got, next, is, e := macro.Once(table, f, 3)
		want := api.Form{}
		if c.e == api.OK {
			want = read(t, c.to)
		}
		if e != c.e || is != c.is || next != c.next || !forms.Equal(got, want) || !forms.Equal(f, read(t, c.from)) {
			t.Errorf("Once(%s) = %s, %d, %v, %v", c.from, text(got), next, is, e)
		}
	}
}

func TestStandard(t *testing.T) {
	want := []string{"AND", "BACKQUOTE", "CASE", "COND", "DECLAIM", "DEFCLASS", "DEFCONSTANT", "DEFGENERIC", "DEFMACRO", "DEFMETHOD", "DEFPARAMETER", "DEFUN", "DEFVAR", "DESTRUCTURING-BIND",
		"DO", "DO*", "DOLIST", "DOTIMES", "LAMBDA", "MULTIPLE-VALUE-BIND", "MULTIPLE-VALUE-LIST", "MULTIPLE-VALUE-SETQ", "NTH-VALUE", "OR", "PROG", "PROG*", "PROG1", "PROG2", "PSETQ", "RETURN",
		"TYPECASE", "UNLESS", "WHEN", "WITH-SLOTS"}
	if got := macro.Standard(); !slices.Equal(got, want) {
		t.Errorf("Standard() = %v", got)
	}
}

// A result shares no memory with the arguments.
func TestOnceMemory(t *testing.T) {
	for _, s := range []string{"(and (a b))", "(when (a b) (c))", "(defmethod f ((a (eql (b)))) (c))", "(car (a))"} {
		f := read(t, s)
		got, _, _, _ := macro.Once(macro.New(), f, 0)
		want := text(got)
		spoil(f)
		if text(got) != want {
			t.Errorf("Once(%s) has become %s", s, text(got))
		}
	}
}

// What an expander returns is its own.
func TestExpanderMemory(t *testing.T) {
	kept := read(t, "(f (g))")
	table := macro.Table{Expanders: []macro.Named{{Name: "KEEP", Expand: func(f api.Form, fresh int) (api.Form, int, api.Errno) { return kept, fresh, api.OK }}}}
	one, _, _, _ := macro.Once(table, read(t, "(keep)"), 0)
	whole, _, _ := macro.All(nil, table, read(t, "(keep)"), 0)
	spoil(kept)
	if text(one) != "(f (g))" || text(whole) != "(f (g))" {
		t.Errorf("with what the expander keeps the results become %s and %s", text(one), text(whole))
	}
}

// spoil changes all nodes of a form.
func spoil(f api.Form) {
	for i := range f.Kids {
		spoil(f.Kids[i])
		f.Kids[i] = api.Form{Kind: api.FormInt, Text: "99"}
	}
}
