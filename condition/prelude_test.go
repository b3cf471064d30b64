package condition_test

import (
	"strings"
	"testing"

	"commonform/api"
	"commonform/condition"
	"commonform/core"
	"commonform/forms"
	"commonform/heap"
	"commonform/lib"
	"commonform/macro"
	"commonform/meaning"
	"commonform/reader"
)

// The text of the prelude: as many definitions as lines, of these names.
func TestPrelude(t *testing.T) {
	s := condition.Prelude()
	if !strings.HasSuffix(s, "\n") || strings.Count(s, "\n") != 33 {
		t.Errorf("the prelude has %d lines", strings.Count(s, "\n"))
	}
	all, _, e := reader.All(reader.Standard("COMMON-LISP"), s)
	if e != api.OK || len(all) != 33 {
		t.Fatalf("%d forms, %v", len(all), e)
	}
	lines := strings.SplitAfter(s, "\n")
	var names []string
	for i, r := range all {
		if strings.TrimSuffix(lines[i], "\n") != s[r.From:r.To] {
			t.Errorf("line %d is %q", i+1, lines[i])
		}
		name := r.Form.Kids[1]
		if name.Kind == api.FormCons {
			name = name.Kids[1]
		}
		names = append(names, strings.ToLower(r.Form.Kids[0].Text[:3]+" "+name.Text))
	}
	want := "def condition, def warning, def serious-condition, def error, def simple-condition, def simple-error, def simple-warning, def control-error, def program-error, def type-error, def cell-error, def unbound-variable," +
		" def unbound-slot, def undefined-function, def arithmetic-error, def division-by-zero, def floating-point-overflow, set %handlers%, set %restarts%, def %condition, def %offer, def %signal, def signal, def error, def warn," +
		" def cerror, def find-restart, def compute-restarts, def invoke-restart, def continue, def muffle-warning, def condition-data, def %fault"
	if got := strings.Join(names, ", "); got != want {
		t.Errorf("the prelude defines %s", got)
	}
	for _, line := range []string{
		"(DEFCLASS CONDITION () (DATA))\n",
		"(DEFUN %OFFER (C L) (IF L (PROGN (IF (%ISA C (CAR (CAR L))) (FUNCALL (CDR (CAR L)) C)) (%OFFER C (CDR L)))))\n",
		"(DEFUN INVOKE-RESTART (N &REST A) (LET* ((R (IF (SYMBOLP N) (FIND-RESTART N) N))) (IF R (APPLY (CDR R) A) (ERROR 'CONTROL-ERROR N))))\n",
		"(DEFUN %FAULT (N D) (APPLY 'ERROR N D))\n",
	} {
		if !strings.Contains(s, line) {
			t.Errorf("the prelude has no line %s", line)
		}
	}
}

// A session runs programs behind the prelude. Classes have what the prelude needs of them alone: instances are objects with a class and data.
type session struct {
	t     *testing.T
	w     *lib.World
	table macro.Table
	fresh int
	above map[string][]string // the superclasses of classes
}

func newSession(t *testing.T) *session {
	t.Helper()
	w, e := lib.New(api.MaxWords, api.MaxWords)
	if e != api.OK {
		t.Fatal(e)
	}
	s := &session{t: t, w: w, above: map[string][]string{}}
	for _, name := range []string{"HANDLER-BIND", "RESTART-BIND", "HANDLER-CASE", "RESTART-CASE", "IGNORE-ERRORS", "WITH-SIMPLE-RESTART", "DEFINE-CONDITION", "ASSERT", "CHECK-TYPE"} {
		s.table.Expanders = append(s.table.Expanders, macro.Named{Name: name, Expand: condition.Macro})
	}
	s.register()
	all, _, _ := reader.All(reader.Standard("COMMON-LISP"), condition.Prelude())
	for _, r := range all {
		if got := s.do(r.Form); strings.HasPrefix(got, "!") || strings.Contains(got, "bad") {
			t.Fatalf("%s: %s", text(r.Form), got)
		}
	}
	return s
}

func (s *session) name(x heap.Word) string {
	_, name, _ := s.w.Name(x)
	return name
}

// list returns the elements of a list.
func (s *session) list(x heap.Word) []heap.Word {
	var l []heap.Word
	for s.w.Heap().Kind(x) == heap.KindCons {
		first, _ := s.w.Heap().Get(x, 0)
		x, _ = s.w.Heap().Get(x, 1)
		l = append(l, first)
	}
	return l
}

func (s *session) register() {
	h := s.w.Heap()
	yes, _ := s.w.Symbol("COMMON-LISP", "T")
	give := func(x heap.Word) lib.Answer { return lib.Answer{Values: []heap.Word{x}} }
	add := func(name string, least, most int, f func(args []heap.Word) lib.Answer) {
		if e := s.w.Register(name, least, most, f); e != api.OK {
			s.t.Fatal(e)
		}
	}
	add("%DEFCLASS", 3, 3, func(args []heap.Word) lib.Answer {
		s.above[s.name(args[0])] = nil
		for _, x := range s.list(args[1]) {
			s.above[s.name(args[0])] = append(s.above[s.name(args[0])], s.name(x))
		}
		return give(args[0])
	})
	add("MAKE-INSTANCE", 1, -1, func(args []heap.Word) lib.Answer {
		x, _ := h.New(heap.KindInstance, 2)
		h.Set(x, 0, args[0])
		return give(x)
	})
	add("%SET-SLOT-VALUE", 3, 3, func(args []heap.Word) lib.Answer {
		h.Set(args[0], 1, args[2])
		return give(args[2])
	})
	add("SLOT-VALUE", 2, 2, func(args []heap.Word) lib.Answer {
		x, _ := h.Get(args[0], 1)
		return give(x)
	})
	add("%ISA", 2, 2, func(args []heap.Word) lib.Answer {
		class, e := h.Get(args[0], 0)
		if e == api.OK && s.is(s.name(class), s.name(args[1])) {
			return give(yes)
		}
		return give(heap.Nil)
	})
	add("%UNHANDLED", 1, 1, func(args []heap.Word) lib.Answer {
		class, _ := h.Get(args[0], 0)
		data, _ := h.Get(args[0], 1)
		fault, _ := s.w.Symbol("COMMON-LISP", "%FAULT")
		s.w.SetFunction(fault, heap.Unbound)
		return lib.Answer{Kind: lib.AnswerFault, Fault: lib.Fault{Type: s.name(class), Data: s.list(data)}}
	})
}

// is reports whether a class is another one, or below it.
func (s *session) is(class, other string) bool {
	for _, name := range s.above[class] {
		if s.is(name, other) {
			return true
		}
	}
	return class == other
}

// do runs a form, and tells how it ends.
func (s *session) do(f api.Form) string {
	s.t.Helper()
	f, next, end := macro.All(s.w, s.table, f, s.fresh)
	if end.Kind == lib.EndValues {
		s.fresh = next
		c, e := core.Convert(f, s.table.Specials)
		if e != api.OK {
			return "bad tree " + e.Error()
		}
		end, _ = meaning.Run(s.w, c, api.MaxSteps)
	}
	var parts []string
	values := end.Values
	switch end.Kind {
	case lib.EndFault:
		parts, values = []string{"!", end.Fault.Type}, end.Fault.Data
	case lib.EndLimit, lib.EndBad:
		return "bad " + end.Code.Error()
	}
	for _, x := range values {
		f, e := s.w.Show(x)
		if e == api.OK {
			f, e = forms.Plain(f)
		}
		if e != api.OK {
			s.t.Fatal(e)
		}
		parts = append(parts, text(f))
	}
	return strings.Join(parts, " ")
}

// What comes of programs.
func TestMeanings(t *testing.T) {
	s := newSession(t)
	for _, c := range []struct{ source, want string }{
		// Faults, and conditions that are signalled.
		{"(handler-case (car 1) (type-error (e) (condition-data e)))", "(1 list)"},
		{"(handler-case (+ 1 2) (error () 'no))", "3"},
		{"(handler-case (values 1 2) (error () 'no))", "1 2"},
		{"(handler-case (error 'simple-error 1 2) (warning () 'no) (error (e) (values (condition-data e) 3)) (simple-error () 'late))", "(1 2) 3"},
		{"(handler-case (signal 'simple-warning 5) (condition (c) (condition-data c)))", "(5)"},
		{"(list (signal 'simple-error 1) (signal 'condition))", "(nil nil)"},
		{"(handler-case (unbound) (undefined-function (e) (condition-data e)))", "(unbound)"},
		{"(handler-case unbound (cell-error (e) (condition-data e)))", "(unbound)"},
		{"(handler-case (/ 1 0) (arithmetic-error () 'divided))", "divided"},
		{"(multiple-value-bind (a b) (ignore-errors (car 1)) (list a (condition-data b)))", "(nil (1 list))"},
		{"(ignore-errors (values 1 2))", "1 2"},
		{"(handler-case (ignore-errors (signal 'warning) 5) (warning () 'out))", "out"},
		{"(list (assert (= 1 1)) (handler-case (assert (= 1 2)) (simple-error () 'asserted)))", "(nil asserted)"},
		{"(list (check-type 5 integer) (handler-case (check-type 5 string) (type-error () 'checked)))", "(nil checked)"},
		// The order of handlers.
		{"(let ((l nil)) (handler-bind ((error (lambda (e) (setq l (cons 1 l)))) (condition (lambda (e) (setq l (cons 2 l)))) (warning (lambda (e) (setq l (cons 3 l)))))" +
			" (handler-bind ((simple-error (lambda (e) (setq l (cons 4 l))))) (signal 'simple-error))) l)", "(2 1 4)"},
		{"(let ((l nil)) (handler-bind ((error (lambda (e) (setq l (cons 'outer l)))))" +
			" (handler-bind ((simple-error (lambda (e) (setq l (cons 'inner l)) (signal 'control-error))) (control-error (lambda (e) (setq l (cons 'never l))))) (signal 'simple-error))) l)", "(outer outer inner)"},
		{"(handler-case (handler-bind ((error (lambda (e) (error 'control-error 7)))) (error 'simple-error)) (control-error (e) (condition-data e)))", "(7)"},
		{"(handler-case (handler-case (error 'simple-error) (warning () 1)) (error () 2))", "2"},
		{"(handler-case (handler-case (error 'simple-error) (error () (error 'control-error))) (control-error () 'behind))", "behind"},
		// Cleanup, bindings.
		{"(let ((l nil)) (list (handler-case (unwind-protect (unwind-protect (car 1) (setq l (cons 1 l))) (setq l (cons 2 l))) (error () l)) l))", "((2 1) (2 1))"},
		{"(progn (handler-case (handler-bind ((warning (lambda (c) nil))) (car 1)) (error () nil)) (list (symbol-value '%handlers%) (symbol-value '%restarts%)))", "(nil nil)"},
		{"(progn (restart-case (restart-bind ((b (lambda () nil))) (invoke-restart 'a)) (a () nil)) (list (symbol-value '%handlers%) (symbol-value '%restarts%)))", "(nil nil)"},
		// Restarts.
		{"(restart-case (+ 1 2) (a () 'no))", "3"},
		{"(restart-case (invoke-restart 'a 1 2) (b () 'no) (a (x &optional y z) (values x y z)))", "1 2 nil"},
		{"(restart-case (restart-case (invoke-restart 'a) (a () 'inner)) (a () 'outer))", "inner"},
		{"(restart-case (restart-case (invoke-restart 'b) (a () 'inner)) (b () 'outer))", "outer"},
		{"(restart-bind ((a (lambda (x) (* x 2)))) (+ 1 (invoke-restart 'a 5)))", "11"},
		{"(restart-bind ((a (lambda () 1)) (a (lambda () 2))) (restart-bind ((b (lambda () 3))) (list (invoke-restart 'a) (invoke-restart (find-restart 'b)) (length (compute-restarts)) (find-restart 'c))))", "(1 3 3 nil)"},
		{"(with-simple-restart (a \"text\") (invoke-restart 'a))", "nil t"},
		{"(with-simple-restart (a) 5)", "5"},
		{"(handler-bind ((error (lambda (e) (invoke-restart 'use 9)))) (restart-case (+ 1 (error 'simple-error)) (use (x) x)))", "9"},
		{"(handler-bind ((error (lambda (e) (continue)))) (list (cerror 'simple-error) 5))", "(nil 5)"},
		{"(list (continue) (warn 'simple-warning))", "(nil nil)"},
		{"(let ((n 0)) (list (handler-bind ((warning (lambda (c) (setq n (+ n 1)) (muffle-warning) (setq n 100)))) (warn 'simple-warning 1)) n))", "(nil 1)"},
		{"(handler-case (invoke-restart 'none) (control-error (e) (condition-data e)))", "(none)"},
		{"(define-condition mine (simple-error) ())", "mine"},
		{"(define-condition plain () ())", "plain"},
		{"(list (handler-case (error 'mine 1) (simple-error (e) (condition-data e))) (handler-case (signal 'plain) (condition () 'met)) (handler-case (signal (make-instance 'plain)) (plain () 'made)))", "((1) met made)"},
	} {
		if got := s.do(read(t, c.source)); got != c.want {
			t.Errorf("%s: %s; want %s", c.source, got, c.want)
		}
	}
}

// A condition that nobody handles ends the run as a fault of its class with its data, behind all cleanup forms.
func TestUnhandled(t *testing.T) {
	for source, want := range map[string]string{
		"(error 'simple-error 1 'a)":            "! SIMPLE-ERROR 1 a",
		"(car 1)":                               "! TYPE-ERROR 1 list",
		"(handler-case (car 1) (warning () 5))": "! TYPE-ERROR 1 list",
		"(handler-bind ((error (lambda (e) 5))) (error 'control-error))": "! CONTROL-ERROR",
		"(invoke-restart 'none)":                                                                     "! CONTROL-ERROR none",
		"(restart-case (cerror 'simple-error 3) (other () 5))":                                       "! SIMPLE-ERROR 3",
		"(unwind-protect (error 'simple-error) (setq seen 1))":                                       "! SIMPLE-ERROR",
		"(handler-bind ((simple-error (lambda (e) (error 'type-error 2)))) (error 'simple-error 1))": "! TYPE-ERROR 2",
	} {
		s := newSession(t)
		if got := s.do(read(t, source)); got != want {
			t.Errorf("%s: %s; want %s", source, got, want)
		}
		if got := s.do(read(t, "(list (symbol-value '%handlers%) (symbol-value '%restarts%))")); got != "(nil nil)" {
			t.Errorf("behind %s: %s", source, got)
		}
		if strings.Contains(source, "seen") {
			if got := s.do(read(t, "seen")); got != "1" {
				t.Errorf("behind %s SEEN is %s", source, got)
			}
		}
	}
}
