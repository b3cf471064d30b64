package macro_test

import (
	"math/rand"
	"strconv"
	"strings"
	"testing"

	"commonform/api"
	"commonform/core"
	"commonform/forms"
	"commonform/lib"
	"commonform/macro"
)

// A writer writes forms with variables V0 to V4, in which all sorts of macros and environments stand inside of one another.
type writer struct{ r *rand.Rand }

func (m *writer) variable() string { return "v" + strconv.Itoa(m.r.Intn(5)) }

func (m *writer) some(depth int) string {
	var l []string
	for range m.r.Intn(3) {
		l = append(l, m.form(depth))
	}
	return strings.Join(l, " ")
}

// statement writes a form that is no tag.
func (m *writer) statement(depth int) string {
	s := m.form(depth)
	if !strings.HasPrefix(s, "(") {
		s = "(or " + s + ")"
	}
	return s
}

// form writes a form: F is what stands for other forms, L for several ones, S for one that is no tag, V for a variable.
func (m *writer) form(depth int) string {
	if depth == 0 {
		return []string{m.variable(), "1", "nil", "'(a b)", "(f)"}[m.r.Intn(5)]
	}
	templates := []string{
		"(when F L)", "(unless F L)", "(and L)", "(or L)", "(cond (F) (F L))", "(case F (1 L) ((a b) F) (t L))", "(typecase F (integer F) (t))", "(prog1 F L)", "(prog2 F F L)", "(psetq V F)", "(setq V F V F)",
		"(do ((V F F)) (F L) S)", "(do* ((V F) V) (F) S)", "(prog (V) S (return F))", "(dolist (V F F) S)", "(dotimes (V F) S)", "(multiple-value-bind (V) F L)", "(multiple-value-list F)", "(multiple-value-setq (V) F)", "(nth-value F F)",
		"(lambda (V) L)", "(lambda (&optional (V F)) L)", "(destructuring-bind (V (x y)) F L)", "(let ((V F)) L)", "(let* ((V F) (V F)) L)", "(flet ((f (V) L)) L (f F))", "(labels ((and (&rest V) L)) (and L))", "(flet ((when (V) F)) (when F))",
		"(macrolet ((m (x) (list 'and x 'F))) (m F))", "(macrolet ((f () ''c)) (f) L)", "(symbol-macrolet ((V F)) L)", "(symbol-macrolet ((V (car F))) (setq V F) (let ((V V)) V L))", "(block a L (return-from a F))", "(tagbody b S (when nil (go b)) S)",
		"(unwind-protect F L)", "(if F F F)", "(progn L)", "(f L)", "(car F)", "(reader::backquote (a (reader::comma F) (reader::splice (list L))))", "(with-slots (V) F L)", "(eval-when (eval) L)", "(defun g (V) L)", "(defmethod g ((V t)) L)",
		"(setf V F)", "(setf (car F) F)", "(push F V)", "(incf V)", "(loop for V in F collect F)", "(loop (f) (return))", "(ignore-errors F L)", "(handler-case F (error (V) L))",
	}
	var s strings.Builder
	for _, c := range templates[m.r.Intn(len(templates))] {
		switch c {
		case 'F':
			s.WriteString(m.form(depth - 1))
		case 'L':
			s.WriteString(m.some(depth - 1))
		case 'S':
			s.WriteString(m.statement(depth - 1))
		case 'V':
			s.WriteString(m.variable())
		default:
			s.WriteRune(c)
		}
	}
	return s.String()
}

// renamed returns a form in which one name stands for another one.
func renamed(f api.Form, from, to string) api.Form {
	if f.Kind == api.FormSymbol && f.Text == from {
		f.Text = to
	}
	var kids []api.Form
	for _, k := range f.Kids {
		kids = append(kids, renamed(k, from, to))
	}
	f.Kids = kids
	return f
}

// moved returns a form whose fresh variables have greater numbers.
func moved(f api.Form, by int) api.Form {
	if n, err := strconv.Atoi(f.Text); err == nil && f.Home == "%" {
		f.Text = strconv.Itoa(n + by)
	}
	var kids []api.Form
	for _, k := range f.Kids {
		kids = append(kids, moved(k, by))
	}
	f.Kids = kids
	return f
}

// walk calls do with all nodes of a form.
func walk(f api.Form, do func(api.Form)) {
	do(f)
	for _, k := range f.Kids {
		walk(k, do)
	}
}

// P22.2 and P22.3: what is expanded is its own expansion, and core takes it; fresh variables are new, and other names change nothing else.
func TestAllLaws(t *testing.T) {
	w := newWorld(t)
	table := given()
	expanded := 0
	for seed := range int64(1500) {
		m := &writer{rand.New(rand.NewSource(seed))}
		source := m.form(1 + m.r.Intn(3))
		f := read(t, source)
		const fresh = 1000
		got, next, end := macro.All(w, table, f, fresh)
		if end.Kind == lib.EndLimit && end.Code == api.ErrWords {
			w = newWorld(t)
			got, next, end = macro.All(w, table, f, fresh)
		}
		if end.Kind == lib.EndFault { // the body of a macro faults
			continue
		}
		if end.Kind != lib.EndValues {
			if end.Code != api.ErrSize && end.Code != api.ErrDepth {
				t.Fatalf("All(%s) ends with %v", source, end)
			}
			continue
		}
		expanded++
		again, next2, end := macro.All(w, table, got, next)
		if end.Kind != lib.EndValues || next2 != next || !forms.Equal(again, got) {
			t.Fatalf("All(%s) = %s, and then %s, %v", source, text(got), text(again), end)
		}
		if _, e := core.Convert(got, nil); e != api.OK && e != api.ErrSize {
			t.Fatalf("Convert of All(%s) = %s: %v", source, text(got), e)
		}
		walk(got, func(f api.Form) {
			if n, err := strconv.Atoi(f.Text); f.Home == "%" && (err != nil || n < fresh || n >= next) {
				t.Fatalf("All(%s) has the fresh variable %s; the next one is %d", source, f.Text, next)
			}
		})
		if other, next2, _ := macro.All(w, table, f, fresh+500); next2 != next+500 || !forms.Equal(other, moved(got, 500)) {
			t.Fatalf("All(%s) from another number on is %s, %d", source, text(other), next2)
		}
		if one, n, is, e := macro.Once(table, f, fresh); is {
			other, next2, _ := macro.All(w, table, one, n)
			if e != api.OK || next2 != next || !forms.Equal(other, got) {
				t.Fatalf("All(%s) behind Once is %s, %d, %v", source, text(other), next2, e)
			}
		}
		for _, name := range []string{"V9", "AND", "CAR"} {
			if hasQuoted(got) {
				break
			}
			if other, _, _ := macro.All(w, table, renamed(f, "V1", name), fresh); !forms.Equal(other, renamed(got, "V1", name)) {
				t.Fatalf("All(%s) with %s for V1 is %s", source, name, text(other))
			}
		}
	}
	if expanded < 1000 {
		t.Errorf("only %d forms were expanded", expanded)
	}
}

// hasQuoted reports whether a variable stands where it is a name of something else.
func hasQuoted(f api.Form) bool {
	is := false
	walk(f, func(f api.Form) {
		is = is || f.Kind == api.FormCons && forms.Is(f.Kids[0], "COMMON-LISP", "SLOT-VALUE")
	})
	return is
}

// Macros do what the standard says of them.
func TestMeanings(t *testing.T) {
	for _, c := range []struct{ source, want string }{
		{"(list (when 1 2 3) (when nil 2) (unless nil 2 3) (unless 1 2))", "(3 nil 3 nil)"},
		{"(list (and) (and 1 2) (and nil (car 1)) (or) (or nil 2) (or 1 (car 1)))", "(t 2 nil nil 2 1)"},
		{"(multiple-value-list (and 1 (values 2 3)))", "(2 3)"},
		{"(multiple-value-list (or nil (values 2 3)))", "(2 3)"},
		{"(list (cond) (cond (nil 1) (2)) (cond (nil 1) (t 2 3)) (cond (nil 1)))", "(nil 2 3 nil)"},
		{"(list (case 5 (4 1) ((5 6) 2) (t 3)) (case 'a (b 1)) (case 7 (otherwise 8)) (case nil (nil 1) ((nil) 2)) (case 1 (1)))", "(2 nil 8 2 nil)"},
		{"(list (typecase 5 (string 1) ((or symbol integer) 2)) (typecase \"a\" (integer 1) (t 3)))", "(2 3)"},
		{"(let ((x 1)) (list (prog1 x (setq x 2)) (prog2 (setq x 3) x (setq x 4)) x))", "(1 3 4)"},
		{"(let ((x 1) (y 2)) (list (psetq x y y x) x y))", "(nil 2 1)"},
		{"(do ((i 0 (+ i 1)) (l nil (cons i l)) (k 5)) ((= i 3) k l))", "(2 1 0)"},
		{"(do* ((i 0 (+ i 1)) (l nil (cons i l))) ((= i 3) l))", "(3 2 1)"},
		{"(do ((i 0)) ((= i 5) i) (when (= i 2) (go two)) (setq i (+ i 1)) (go end) two (setq i 5) end)", "5"},
		{"(let ((x 1)) (prog ((x 2) (y x)) (return (list x y))))", "(2 1)"},
		{"(prog* ((x 2) (y x)) again (when (< x 5) (setq x (+ x 1)) (go again)) (return (list x y)))", "(5 2)"},
		{"(let ((l nil)) (list (dolist (x '(1 2 3) (cons x l)) (setq l (cons x l))) (dolist (x '(1 2)) (return x))))", "((nil 3 2 1) 1)"},
		{"(let ((l nil)) (list (dotimes (i 3 (cons i l)) (setq l (cons i l))) (dotimes (i 3) (and))))", "((3 2 1 0) nil)"},
		{"(multiple-value-bind (a b c) (values 1 2) (list a b c))", "(1 2 nil)"},
		{"(multiple-value-bind (a) (values 1 2) a)", "1"},
		{"(let (a b) (list (multiple-value-setq (a b) (values 1 2 3)) a b (nth-value 1 (values 4 5))))", "(1 1 2 5)"},
		{"(destructuring-bind (a (b &optional (c 7)) &rest d &key e) '(1 (2) :e 3) (declare (special a)) (list a b c d e))", "(1 2 7 (:e 3) 3)"},
		{"(let ((l (list 1 2))) `(a ,(and 1) ,@l ,@(when t l) . ,(or nil 'b)))", "(a 1 1 2 1 2 . b)"},
		{"(let ((l (list 1 2 3))) (setf (cadr l) 5) (incf (car l) 10) (push 0 (cdr l)) l)", "(11 0 5 3)"},
		{"(symbol-macrolet ((x (car l))) (let ((l (list 1 2))) (setq x 7) (incf x) (multiple-value-setq (x) (values (+ x 1) 3)) l))", "(9 2)"},
		{"(macrolet ((twice (f) `(progn ,f ,f))) (let ((n 0)) (twice (setq n (+ n 1))) n))", "2"},
		{"(macrolet ((my-or (a b) (let ((s (gensym))) `(let ((,s ,a)) (if ,s ,s ,b))))) (my-or nil (my-or nil 3)))", "3"},
		{"(let ((f (lambda (x) (+ x 1)))) (funcall f 1))", "2"},
		{"(flet ((when (x) (list 'local x))) (list (when 1) (funcall (function when) 2)))", "((local 1) (local 2))"},
		{"(tagbody (and) (and) (or) (or))", "nil"},
		{"(macrolet ((m () 5)) (tagbody (m) 5 (m)))", "nil"},
	} {
		newSession(t).expect(c.want, c.source)
	}
	s := newSession(t)
	s.expect("f", "(defun f (x &optional (y (or nil 2))) \"doc\" (when (= x 0) (return-from f 'zero)) (list x y))")
	s.expect("((1 2) zero)", "(list (f 1) (f 0))")
	s.expect("|(SETF G)|", "(defun (setf g) (v x) (return-from g (rplaca x v)))")
	s.expect("(5)", "(let ((l (list 1))) (setf (g l) 5) l)")
	s.expect("a", "(defvar a 1)", "(defvar a 2)")
	s.expect("(1 3 1)", "(defun get-a () a)", "(list (get-a) (let ((a 3)) (get-a)) (get-a))")
	s.expect("4", "(defparameter a 4)", "(get-a)")
	s.expect("(5 4)", "(declaim (special b))", "(defun get-b () b)", "(setq b 4)", "(list (let ((b 5)) (get-b)) (get-b))")
	s.expect("swap", "(defmacro swap (a b) `(psetq ,a ,b ,b ,a))")
	s.expect("(2 1)", "(let ((x 1) (y 2)) (swap x y) (list x y))")
	s.expect("! TYPE-ERROR 1 list", "(defmacro bad () (car 1))", "(let () (bad))")
	// An old macro is called where a function was defined ahead of the new one.
	s.expect("(old new)", "(defmacro m () ''old)", "(defun old () (m))", "(defmacro m () ''new)", "(list (old) (m))")
}
