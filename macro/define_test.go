package macro_test

import (
	"strconv"
	"strings"
	"testing"

	"commonform/api"
	"commonform/core"
	"commonform/forms"
	"commonform/heap"
	"commonform/lib"
	"commonform/macro"
)

// define performs definitions one behind the other.
func define(t *testing.T, w *lib.World, table macro.Table, sources ...string) (macro.Table, int) {
	t.Helper()
	next := 0
	for _, s := range sources {
		made, n, is, end := macro.Define(w, table, read(t, s), next)
		if !is || end.Kind != lib.EndValues || len(end.Values) != 0 {
			t.Fatalf("Define(%s): %v, %v", s, is, end)
		}
		table, next = made, n
	}
	return table, next
}

func TestDefineMacros(t *testing.T) {
	w := newWorld(t)
	table, next := define(t, w, given(),
		"(defmacro m (a &optional (b 'x)) \"doc\" (declare (special c)) (when t (list 'f a b)))",
		"(defmacro n (&rest l) (if l (list 'm (car l)) '(g)))",
		"(defmacro parts ((a . b) &key (c (or nil 7))) (list 'quote (list a b c)))",
		"(defmacro dotted (a . b) (list 'quote (list a b)))",
		"(defmacro all (&whole w &rest r) (list 'quote (list w r)))",
		"(defmacro both (a b) `(list ,a ,@b))",
		"(defmacro early (x) (return-from early (list 'quote x)) 5)",
		"(defmacro nothing () (values))",
		"(defmacro none ())",
	)
	if len(table.Macros) != 9 || next == 0 {
		t.Fatalf("%d macros, %d", len(table.Macros), next)
	}
	for _, m := range table.Macros {
		l := m.Lambda
		if core.Check(l) != api.OK || l.Op != api.CoreLambda || len(l.Pars) != 1 || l.Pars[0].Kind != api.ParamRequired || len(core.Free(l)) != 0 {
			t.Errorf("the function of %s is %v", text(m.Name), l)
		}
	}
	for _, c := range []whole{
		{"(m 1)", "(f 1 x)"},
		{"(m (m 1 2) (and))", "(f (f 1 2) t)"},
		{"(n)", "(g)"},
		{"(n (n) 2)", "(f (g) x)"},
		{"(parts (1 2 3) :c 4)", "'(1 (2 3) 4)"},
		{"(parts (1 . 2))", "'(1 2 7)"},
		{"(dotted 1 2 . 3)", "'(1 (2 . 3))"},
		{"(dotted 1)", "'(1 nil)"},
		{"(all 1 2)", "'((1 2) (1 2))"},
		{"(both (m 1) ((n) 2))", "(list (f 1 x) (g) 2)"},
		{"(early (and))", "'(and)"},
		{"(nothing)", "nil"},
		{"(none)", "nil"},
		{"(f m '(m 1) #(m 1))", "(f m '(m 1) #(m 1))"},
	} {
		if got, want := all(t, w, table, c.from), read(t, c.to); !forms.Equal(got, want) {
			t.Errorf("All(%s) = %s; want %s", c.from, text(got), text(want))
		}
	}
}

// The last macro of a name counts, ahead of expanders and standard macros.
func TestDefineAgain(t *testing.T) {
	w := newWorld(t)
	first, _ := define(t, w, given(), "(defmacro m () 1)", "(defmacro and () 2)", "(defmacro setf () 3)")
	second, _ := define(t, w, first, "(defmacro m () 4)", "(defmacro if () 5)")
	for s, want := range map[string]string{"(m)": "1", "(and)": "2", "(setf)": "3", "(or)": "nil"} {
		if got := text(all(t, w, first, s)); got != want {
			t.Errorf("All(%s) = %s; want %s", s, got, want)
		}
	}
	for s, want := range map[string]string{"(m)": "4", "(if 1 2)": "(if 1 2)", "(flet ((and nil)) (and))": "(flet ((and nil)) (and))"} {
		if got := text(all(t, w, second, s)); got != want {
			t.Errorf("behind: All(%s) = %s; want %s", s, got, want)
		}
	}
	if len(second.Macros) != 5 || len(first.Macros) != 3 {
		t.Errorf("%d and %d macros", len(first.Macros), len(second.Macros))
	}
}

// A macro has the expansion of its time: macros in its body are expanded when it is defined.
func TestDefineTime(t *testing.T) {
	w := newWorld(t)
	table, _ := define(t, w, macro.New(), "(defmacro m () ''old)", "(defmacro n () (m))", "(defmacro m () ''new)", "(defmacro r () '(m))")
	for s, want := range map[string]string{"(n)": "old", "(m)": "'new", "(r)": "'new"} {
		if got := text(all(t, w, table, s)); got != want {
			t.Errorf("All(%s) = %s; want %s", s, got, want)
		}
	}
}

func TestDefineSpecials(t *testing.T) {
	w := newWorld(t)
	table, next := define(t, w, macro.New(), "(defvar a)", "(defvar b 1 \"doc\")", "(defparameter a 2)", "(defconstant c 3)", "(defvar p::a)",
		"(declaim (special d a) (optimize speed) nil (special) (p::special x) (special e))", "(declaim)")
	var names []string
	for _, f := range table.Specials {
		names = append(names, text(f))
	}
	if got := strings.Join(names, " "); got != "a b c p::a d e" || next != 0 || len(table.Macros) != 0 {
		t.Errorf("Specials are %s; %d", got, next)
	}
	// A special variable is bound as one in macros, too.
	table, _ = define(t, w, table, "(defmacro m (a) (g))")
	if s, e := core.Show(table.Macros[0].Lambda); e != api.OK || !strings.Contains(s, "(bind [1:COMMON-LISP:A]") {
		t.Errorf("%s, %v", s, e)
	}
}

func TestDefineOther(t *testing.T) {
	w := newWorld(t)
	for _, s := range []string{"a", "5", "nil", "(defun f ())", "(p::defmacro m ())", "((defmacro m ()))", "(quote (defmacro m ()))", "(progn (defvar a))", "(and . b)", "(5 . b)"} {
		made, next, is, end := macro.Define(w, given(), read(t, s), 5)
		if is || next != 0 || end.Kind != lib.EndValues || len(made.Expanders)+len(made.Macros)+len(made.Specials) != 0 {
			t.Errorf("Define(%s) = %v, %d, %v, %v", s, made, next, is, end)
		}
	}
}

func TestDefineErrors(t *testing.T) {
	w := newWorld(t)
	deep := "(f " + strings.Repeat("(f ", 97) + "a" + strings.Repeat(")", 98)
	for s, want := range map[string]api.Errno{
		"(defmacro)": api.ErrForm, "(defmacro m)": api.ErrForm, "(defmacro 5 ())": api.ErrForm, "(defmacro (setf m) ())": api.ErrForm, "(defmacro m 5)": api.ErrForm, "(defmacro m () . 5)": api.ErrForm,
		"(defmacro m (a a))": api.ErrTwice, "(defmacro m () (when))": api.ErrForm, "(defmacro m () (return-from n))": core.ErrScope, "(defmacro m () (declare 5) 6)": core.ErrDeclare,
		"(defmacro m () 1 (declare (special a)))": api.OK, "(defmacro m () (let ((a 1) (a 2))))": api.ErrTwice, "(defmacro m () (defmacro n ()))": api.ErrForm, "(defmacro m () '#1=(a . #1#))": api.ErrForm,
		"(defmacro m () " + deep + ")": api.ErrDepth,
		"(defvar)":                     api.ErrForm, "(defvar 5)": api.ErrForm, "(defvar nil)": api.ErrForm, "(defparameter :a 1)": api.ErrForm, "(defconstant (a) 1)": api.ErrForm, "(defvar . a)": api.ErrForm,
		"(declaim a)": api.ErrForm, "(declaim (special 5))": api.ErrForm, "(declaim (special nil))": api.ErrForm, "(declaim (special . a))": api.ErrForm, "(declaim (special a) 5)": api.ErrForm, "(declaim . a)": api.ErrForm,
		"(defmacro m (&optional (a (down))) a)": api.OK,
	} {
		made, next, is, end := macro.Define(w, given(), read(t, s), 5)
		if want == api.OK {
			if !is || end.Kind != lib.EndValues {
				t.Errorf("Define(%s): %v, %v", s, is, end)
			}
			continue
		}
		if is || next != 0 || end.Kind != lib.EndBad || end.Code != want || len(made.Expanders)+len(made.Macros)+len(made.Specials) != 0 {
			t.Errorf("Define(%s) = %v, %d, %v, %v; want %v", s, made, next, is, end, want)
		}
	}
	if _, _, is, end := macro.Define(w, given(), api.Form{Kind: api.FormCons}, 0); is || end.Kind != lib.EndBad || end.Code != api.ErrForm {
		t.Errorf("Define of no form: %v, %v", is, end)
	}
}

// How the function of a macro ends is how All ends.
func TestMacroEnds(t *testing.T) {
	w := newWorld(t)
	table, _ := define(t, w, given(),
		"(defmacro fault () (car 1))",
		"(defmacro one (a) a)",
		"(defmacro forever () (tagbody a (go a)))",
		"(defmacro circle () (let ((l (list 'f))) (rplacd l l) l))",
		"(defmacro shared (x) (let ((l (list 'f x))) (list 'g l l)))",
		"(defmacro closure () (list 'quote (function (lambda ()))))",
		"(defmacro many () (values 1 2))",
		"(defmacro large () (let ((l (list 1 2 3 4 5))) (dotimes (i 9 l) (setq l (append l l)))))",
		"(defmacro symbol () (list 'quote (make-symbol \"A\")))",
		"(defmacro no-form () '(when))",
	)
	for s, want := range map[string]string{"(shared (and))": "(g (f t) (f t))", "(closure)": "'%::closure", "(many)": "1", "(symbol)": "'#:a", "(one (one 5))": "5"} {
		if got := text(all(t, w, table, s)); got != want {
			t.Errorf("All(%s) = %s; want %s", s, got, want)
		}
	}
	for s, want := range map[string]lib.End{
		"(f (fault))":  {Kind: lib.EndFault, Fault: lib.Fault{Type: "TYPE-ERROR"}},
		"(one)":        {Kind: lib.EndFault, Fault: lib.Fault{Type: "UNDEFINED-FUNCTION"}},
		"(one 1 2)":    {Kind: lib.EndFault, Fault: lib.Fault{Type: "UNDEFINED-FUNCTION"}},
		"(one . 1)":    {Kind: lib.EndFault, Fault: lib.Fault{Type: "UNDEFINED-FUNCTION"}},
		"(forever)":    {Kind: lib.EndLimit, Code: api.ErrSteps},
		"(circle)":     {Kind: lib.EndBad, Code: forms.ErrCircle},
		"(large)":      {Kind: lib.EndBad, Code: api.ErrSize},
		"(no-form)":    {Kind: lib.EndBad, Code: api.ErrForm},
		"(one p::x)":   {Kind: lib.EndBad, Code: api.ErrNone},
		"(or a (one))": {Kind: lib.EndFault, Fault: lib.Fault{Type: "UNDEFINED-FUNCTION"}},
	} {
		got, next, end := macro.All(w, table, read(t, s), 0)
		if end.Kind != want.Kind || end.Code != want.Code || end.Fault.Type != want.Fault.Type || next != 0 || got.Kind != 0 {
			t.Errorf("All(%s) = %s, %d, %v; want %v", s, text(got), next, end, want)
		}
	}
	_, _, end := macro.All(w, table, read(t, "(fault)"), 0)
	if len(end.Fault.Data) != 2 || end.Fault.Data[0] != fix(t, 1) {
		t.Errorf("the fault has %v", end.Fault.Data)
	}
}

func fix(t *testing.T, n int64) heap.Word {
	t.Helper()
	x, e := heap.Fix(n)
	if e != api.OK {
		t.Fatal(e)
	}
	return x
}

// The arguments of a macro may have labels.
func TestMacroLabels(t *testing.T) {
	w := newWorld(t)
	table, _ := define(t, w, macro.New(), "(defmacro first-of (a) (list 'quote (car a)))", "(defmacro same (a b) (if (eq a b) ''same ''other))")
	for s, want := range map[string]string{"(first-of #1=(a . #1#))": "'a", "(same #1=(a) #1#)": "'same", "(same (a) (a))": "'other", "(f (first-of (#1=a . #1#)))": "(f 'a)"} {
		if got := text(all(t, w, table, s)); got != want {
			t.Errorf("All(%s) = %s; want %s", s, got, want)
		}
	}
	if e := refused(t, w, table, read(t, "(f '#1=(a) (same #1# #1#))")); e != api.ErrForm {
		t.Errorf("a reference to what stands outside: %v", e)
	}
}

// What somebody handed in as the function of a macro may be none.
func TestMacroGarbage(t *testing.T) {
	w := newWorld(t)
	required := api.Param{Kind: api.ParamRequired, Given: -1}
	body := api.Core{Op: api.CoreConst, Data: forms.Nil()}
	for _, c := range []struct {
		what string
		tree api.Core
		e    api.Errno
	}{
		{"no tree", api.Core{}, api.ErrForm},
		{"a constant", body, api.ErrForm},
		{"no parameter", api.Core{Op: api.CoreLambda, Kids: []api.Core{body}}, api.ErrForm},
		{"two parameters", api.Core{Op: api.CoreLambda, Pars: []api.Param{required, required}, Kids: []api.Core{body}}, api.ErrForm},
		{"a rest", api.Core{Op: api.CoreLambda, Pars: []api.Param{{Kind: api.ParamRest, Given: -1}}, Kids: []api.Core{body}}, api.ErrForm},
		{"no body", api.Core{Op: api.CoreLambda, Pars: []api.Param{required}}, api.ErrForm},
		{"a free variable", api.Core{Op: api.CoreLambda, Pars: []api.Param{required}, Kids: []api.Core{{Op: api.CoreVar, N: 5}}}, api.ErrForm},
		{"what is right", api.Core{Op: api.CoreLambda, Pars: []api.Param{required}, Kids: []api.Core{body}}, api.OK},
	} {
		table := macro.Table{Macros: []macro.Macro{{Name: read(t, "m"), Lambda: c.tree}}}
		if e := refused(t, w, table, read(t, "(m)")); e != c.e {
			t.Errorf("%s: %v; want %v", c.what, e, c.e)
		}
	}
}

// A table shares no memory with the one from which it was made.
func TestDefineMemory(t *testing.T) {
	w := newWorld(t)
	first, _ := define(t, w, given(), "(defmacro m (a) (list 'f a))", "(defvar a)")
	second, _ := define(t, w, first, "(defvar b)")
	want := text(all(t, w, second, "(m (setf))"))
	first.Expanders[0].Name = "X"
	first.Macros[0].Name.Text = "X"
	first.Macros[0].Lambda.Kids[0] = api.Core{}
	first.Specials[0] = api.Form{}
	if got := text(all(t, w, second, "(m (setf))")); got != want || text(second.Specials[0]) != "a" {
		t.Errorf("All is %s now; %s ahead", got, want)
	}
	third, _ := define(t, w, second, "(defmacro m () 5)")
	if got := text(all(t, w, second, "(m (setf))")); got != want || len(third.Macros) != 2 {
		t.Errorf("a table that another one was made of: %s", got)
	}
}

// Fresh variables of definitions are numbered on.
func TestDefineFresh(t *testing.T) {
	w := newWorld(t)
	source := "(defmacro m ((a) &key b) (or a b (dolist (x a b))))"
	_, from0, _, _ := macro.Define(w, given(), read(t, source), 0)
	_, from70, _, _ := macro.Define(w, given(), read(t, source), 70)
	if from0 == 0 || from70 != from0+70 {
		t.Errorf("next numbers %d and %d", from0, from70)
	}
	f, next, end := macro.All(w, given(), read(t, "(macrolet ((m ((a) &key b) (or a b (dolist (x a b))))) (or c d))"), 0)
	if want := strings.ReplaceAll("(locally (let ((V c)) (if V V d)))", "V", text(forms.Symbol("%", strconv.Itoa(from0)))); end.Kind != lib.EndValues || next != from0+1 || text(f) != want {
		t.Errorf("%s, %d, %v; want %s", text(f), next, end, want)
	}
}
