package condition_test

import (
	"math/rand"
	"slices"
	"strconv"
	"strings"
	"testing"

	"commonform/api"
	"commonform/condition"
	"commonform/forms"
)

func TestMacro(t *testing.T) {
	for _, c := range []struct {
		from, to string
		next     int
	}{
		{"(handler-bind ())", "(progv '(%handlers%) (list (cons (list) (symbol-value '%handlers%))))", 0},
		{"(handler-bind ((error h) ((or a b) (f)) (5 6)) (g) 7)", "(progv '(%handlers%) (list (cons (list (cons 'error h) (cons '(or a b) (f)) (cons '5 6)) (symbol-value '%handlers%))) (g) 7)", 0},
		{"(restart-bind ())", "(progv '(%restarts%) (list (append (list) (symbol-value '%restarts%))))", 0},
		{"(restart-bind ((a f) (nil (g))) h)", "(progv '(%restarts%) (list (append (list (cons 'a f) (cons 'nil (g))) (symbol-value '%restarts%))) h)", 0},
		{"(handler-case (f))", "(block g0 (let* ((g1 nil)) (tagbody (return-from g0 (handler-bind () (f))))))", 3},
		{"(handler-case (f) (error () 1 2) ((or a b) (e) (g e)) (t (e)))",
			"(block g0 (let* ((g1 nil)) (tagbody (return-from g0 (handler-bind ((error (lambda (g5) (setq g1 g5) (go g2))) ((or a b) (lambda (g5) (setq g1 g5) (go g3))) (t (lambda (g5) (setq g1 g5) (go g4)))) (f)))" +
				" g2 (return-from g0 (progn 1 2)) g3 (return-from g0 (let* ((e g1)) (g e))) g4 (return-from g0 (let* ((e g1)))))))", 6},
		{"(restart-case (f))", "(block g0 (let* ((g1 nil)) (tagbody (return-from g0 (restart-bind () (f))))))", 3},
		{"(restart-case (f) (a () 1) (nil (x &optional (5)) (g x) 2))",
			"(block g0 (let* ((g1 nil)) (tagbody (return-from g0 (restart-bind ((a (lambda (&rest g4) (setq g1 g4) (go g2))) (nil (lambda (&rest g4) (setq g1 g4) (go g3)))) (f)))" +
				" g2 (return-from g0 (apply (lambda () 1) g1)) g3 (return-from g0 (apply (lambda (x &optional (5)) (g x) 2) g1)))))", 5},
		{"(ignore-errors)", "(handler-case (progn) (error (g0) (values nil g0)))", 1},
		{"(ignore-errors (f) 5)", "(handler-case (progn (f) 5) (error (g0) (values nil g0)))", 1},
		{"(with-simple-restart (a))", "(restart-case (progn) (a () (values nil t)))", 0},
		{"(with-simple-restart (nil \"text\" 5) (f) 6)", "(restart-case (progn (f) 6) (nil () (values nil t)))", 0},
		{"(define-condition c () ())", "(defclass c (condition) ())", 0},
		{"(define-condition c (error 5) (x (y :initarg :y)) (:report z) 7)", "(defclass c (error 5) (x (y :initarg :y)))", 0},
		{"(assert (f))", "(if (f) nil (error 'simple-error))", 0},
		{"(check-type (f) (or a b))", "(if (typep (f) '(or a b)) nil (error 'type-error))", 0},
	} {
		f := read(t, c.from)
		got, next, e := condition.Macro(f, 0)
		if want := read(t, c.to); e != api.OK || next != c.next || !forms.Equal(got, want) {
			t.Errorf("Macro(%s) = %s, %d, %v\nwant %s, %d", c.from, text(got), next, e, text(want), c.next)
		}
		if !forms.Equal(f, read(t, c.from)) {
			t.Errorf("Macro has changed %s", c.from)
		}
	}
}

// wrongCases are forms of HANDLER-CASE and RESTART-CASE that have not the shape of one.
func wrongCases() []string {
	return []string{"(handler-case)", "(handler-case . x)", "(handler-case x . y)", "(handler-case x y)", "(handler-case x nil)", "(handler-case x (error))", "(handler-case x (error . e))", "(handler-case x (error e))", "(handler-case x (error (a b)))",
		"(handler-case x (error (nil)))", "(handler-case x (error (:a)))", "(handler-case x (error (5)))", "(handler-case x (error ((a))))", "(handler-case x (error (a . b)))", "(handler-case x (error () 1 . 2))", "(handler-case x (error ()) 5)",
		"(restart-case)", "(restart-case x (a))", "(restart-case x (a b))", "(restart-case x (5 ()))", "(restart-case x ((a) ()))", "(restart-case x (a (b . c)))", "(restart-case x (a () . b))", "(restart-case x a)"}
}

func TestMacroErrors(t *testing.T) {
	for _, s := range slices.Concat(wrongCases(), []string{"x", "nil", "5", "(f)", "(error)", "((handler-case x))", "(p::handler-case x)",
		"(handler-bind)", "(handler-bind a)", "(handler-bind (a))", "(handler-bind ((a)))", "(handler-bind ((a b c)))", "(handler-bind ((a b) . c))", "(handler-bind ((a . b)))", "(handler-bind () . x)",
		"(restart-bind)", "(restart-bind ((5 f)))", "(restart-bind (((a) f)))", "(restart-bind ((a)))", "(restart-bind 5)", "(ignore-errors . x)",
		"(with-simple-restart)", "(with-simple-restart ())", "(with-simple-restart a)", "(with-simple-restart (5))", "(with-simple-restart ((a)))", "(with-simple-restart (a . b))", "(with-simple-restart (a) . x)",
		"(define-condition)", "(define-condition c)", "(define-condition c ())", "(define-condition 5 () ())", "(define-condition (c) () ())", "(define-condition c a ())", "(define-condition c (a . b) ())", "(define-condition c () a)", "(define-condition c () (a . b))", "(define-condition c () () . x)",
		"(assert)", "(assert x y)", "(assert . x)", "(check-type)", "(check-type x)", "(check-type x y z)"}) {
		if got, next, e := condition.Macro(read(t, s), 0); e != api.ErrForm || next != 0 || got.Kind != 0 {
			t.Errorf("Macro(%s) = %s, %d, %v", s, text(got), next, e)
		}
	}
	bad, no, fine := api.Form{Kind: api.FormRef, Text: "1"}, read(t, "(list)"), read(t, "(assert x)")
	for _, c := range []struct {
		form  api.Form
		fresh int
		e     api.Errno
	}{
		{bad, -1, forms.ErrLabel}, {no, -1, api.ErrArg}, {no, 1<<30 + 1, api.ErrArg}, {no, 1 << 30, api.ErrForm}, {fine, -1, api.ErrArg}, {fine, 0, api.OK}, {fine, 1 << 30, api.OK}, {fine, 1<<30 + 1, api.ErrArg},
		{read(t, "(assert #1=(x . #1#))"), 0, api.OK}, {read(t, "(handler-bind #1=((a b)) #1#)"), 0, api.ErrForm}, {read(t, "(handler-bind ((a #1=b)) #1#)"), 0, api.OK}, {read(t, "(restart-case x (a #1=(b)))"), 0, api.ErrForm},
		{read(t, "(define-condition c () (#1=a #1#))"), 0, api.OK}, {read(t, "(handler-case #1=(x) (a () #1#))"), 0, api.OK}, {read(t, "(handler-case x (#1=a () #1#))"), 0, api.OK},
	} {
		if _, _, e := condition.Macro(c.form, c.fresh); e != c.e {
			t.Errorf("Macro(%s, %d): %v; want %v", text(c.form), c.fresh, e, c.e)
		}
	}
}

func TestSizes(t *testing.T) {
	nested := func(n int) api.Form {
		f := forms.Nil()
		for range n {
			f = forms.Call("F", []api.Form{f})
		}
		return f
	}
	many := slices.Repeat([]api.Form{forms.Nil()}, 1996)
	for _, c := range []struct {
		what string
		form api.Form
		e    api.Errno
	}{
		{"a deep form", forms.Call("IGNORE-ERRORS", []api.Form{nested(97)}), api.OK},
		{"a form that is too deep", forms.Call("IGNORE-ERRORS", []api.Form{nested(98)}), api.ErrSize},
		{"many forms", forms.Call("HANDLER-BIND", append([]api.Form{forms.Nil()}, many[:1900]...)), api.OK},
		{"too many forms", forms.Call("HANDLER-BIND", append([]api.Form{forms.Nil()}, many...)), api.ErrSize},
	} {
		if f, next, e := condition.Macro(c.form, 0); e != c.e || e != api.OK && (next != 0 || f.Kind != 0) {
			t.Errorf("%s: %d, %v; want %v", c.what, next, e, c.e)
		}
	}
}

func TestClauses(t *testing.T) {
	for s, want := range map[string]string{
		"(handler-case x)": "x",
		"(handler-case (x) (error ()) ((or a b) (e) 1 (2)) (5 (e) . nil))": "(x): error nil; (or a b) (e) 1 (2); 5 (e)",
		"(restart-case nil (a (x &rest y) 1) (nil (5 nil)) (:b ()))":       "nil: a (x &rest y) 1; nil (5 nil); :b nil",
	} {
		x, l, e := condition.Clauses(read(t, s))
		var all []string
		for _, c := range l {
			all = append(all, strings.TrimSpace(text(c.Name)+" "+text(c.Params)+" "+texts(c.Body)))
		}
		got := text(x)
		if len(all) > 0 {
			got += ": " + strings.Join(all, "; ")
		}
		if e != api.OK || got != want {
			t.Errorf("Clauses(%s) = %s, %v; want %s", s, got, e, want)
		}
	}
	for _, s := range append(wrongCases(), "x", "nil", "(ignore-errors x)", "(handler-bind ())", "(p::handler-case x)") {
		if x, l, e := condition.Clauses(read(t, s)); e != api.ErrForm || l != nil || x.Kind != 0 {
			t.Errorf("Clauses(%s) = %s, %v, %v", s, text(x), l, e)
		}
	}
	if _, _, e := condition.Clauses(api.Form{Kind: api.FormRef, Text: "1"}); e != forms.ErrLabel {
		t.Errorf("Clauses of no form: %v", e)
	}
}

// P25.2: each form of a body, and each function, once and in order; new symbols are new, and only their numbers follow the first one.
func TestLaws(t *testing.T) {
	for seed := range int64(1000) {
		r := rand.New(rand.NewSource(seed))
		next := 0
		form := func() string {
			next++
			return "(s" + strconv.Itoa(next) + ")"
		}
		some := func(make func() string) string {
			var l []string
			for range r.Intn(3) {
				l = append(l, make())
			}
			return strings.Join(l, " ")
		}
		pair := func() string { return "(a " + form() + ")" }
		clause := func() string {
			return []string{"(a () ", "(a (e) "}[r.Intn(2)] + some(form) + ")"
		}
		source := []func() string{
			func() string { return "(handler-bind (" + some(pair) + ") " + some(form) + ")" },
			func() string { return "(restart-bind (" + some(pair) + ") " + some(form) + ")" },
			func() string { return "(handler-case " + form() + " " + some(clause) + ")" },
			func() string { return "(restart-case " + form() + " " + some(clause) + ")" },
			func() string { return "(ignore-errors " + some(form) + ")" },
			func() string { return "(with-simple-restart (a) " + some(form) + ")" },
		}[r.Intn(6)]()
		f := read(t, source)
		got, after, e := condition.Macro(f, 100)
		if e != api.OK || !slices.Equal(names(got), names(f)) {
			t.Fatalf("Macro(%s) = %s, %v", source, text(got), e)
		}
		walk(got, func(f api.Form) {
			if n, err := strconv.Atoi(f.Text); f.Home == "%" && (err != nil || n < 100 || n >= after) {
				t.Fatalf("Macro(%s) = %s, %d", source, text(got), after)
			}
		})
		if other, after2, _ := condition.Macro(f, 0); after2 != after-100 || !forms.Equal(got, moved(other, 100)) {
			t.Fatalf("Macro(%s) from 0 on is %s, %d", source, text(other), after2)
		}
	}
}

// names returns the names S1, S2 and so on in the order in which they stand in a form.
func names(f api.Form) []string {
	var l []string
	walk(f, func(f api.Form) {
		if n, ok := strings.CutPrefix(f.Text, "S"); ok {
			if _, err := strconv.Atoi(n); err == nil {
				l = append(l, f.Text)
			}
		}
	})
	return l
}

// A result shares no memory with the arguments, nor one part of it with another one.
func TestMemory(t *testing.T) {
	f := read(t, "(handler-case (f (g)) ((or a b) (e) (h (i)) (j)) (b () (k)))")
	made, _, _ := condition.Macro(f, 0)
	x, l, _ := condition.Clauses(f)
	all := func() string {
		s := text(made) + text(x)
		for _, c := range l {
			s += text(c.Name) + text(c.Params) + texts(c.Body)
		}
		return s
	}
	want := all()
	spoil(f)
	_ = append(l[0].Body, api.Form{})
	if got := all(); got != want {
		t.Errorf("with the form the results become %s", got)
	}
}
