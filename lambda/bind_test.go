package lambda_test

import (
	"math/rand"
	"strconv"
	"strings"
	"testing"

	"commonform/api"
	"commonform/core"
	"commonform/forms"
	"commonform/lambda"
	"commonform/lib"
	"commonform/meaning"
)

// evaluate runs a form in a new world, and returns the form of its value; "bad" stands for a call of %BAD-FORM.
func evaluate(t *testing.T, f api.Form) string {
	t.Helper()
	w, e := lib.New(api.MaxWords, api.MaxWords)
	if e != api.OK {
		t.Fatal(e)
	}
	c, e := core.Convert(f, nil)
	if e != api.OK {
		t.Fatalf("Convert(%s): %v", text(f), e)
	}
	end, _ := meaning.Run(w, c, api.MaxSteps)
	if end.Kind == lib.EndFault && end.Fault.Type == "UNDEFINED-FUNCTION" {
		if _, name, _ := w.Name(end.Fault.Data[0]); name == "%BAD-FORM" {
			return "bad"
		}
	}
	if end.Kind != lib.EndValues || len(end.Values) != 1 {
		t.Fatalf("%s ends with %v", text(f), end)
	}
	shown, e := w.Show(end.Values[0])
	if e != api.OK {
		t.Fatal(e)
	}
	plain, e := forms.Plain(shown)
	if e != api.OK {
		t.Fatal(e)
	}
	return text(plain)
}

// bound binds the variables of a list to the parts of an argument, and returns what they have.
func bound(t *testing.T, l lambda.List, arg api.Form) string {
	t.Helper()
	body := []api.Form{forms.Call("LIST", lambda.Variables(l))}
	f, _, e := lambda.Bind(l, forms.Call("QUOTE", []api.Form{arg}), body, 100)
	if e != api.OK {
		t.Fatalf("Bind(%s): %v", describe(l), e)
	}
	return evaluate(t, f)
}

func TestBind(t *testing.T) {
	for _, c := range []struct{ list, arg, want string }{
		{"nil", "nil", "nil"},
		{"nil", "(1)", "bad"},
		{"nil", "5", "bad"},
		{"(a b)", "(1 2)", "(1 2)"},
		{"(a b)", "(1)", "bad"},
		{"(a b)", "(1 2 3)", "bad"},
		{"(a b)", "(1 2 . 3)", "bad"},
		{"(a . b)", "(1 2 . 3)", "(1 (2 . 3))"},
		{"(&rest a)", "5", "bad"},
		{"(&rest a)", "nil", "(nil)"},
		{"(&rest a)", "(1 . 2)", "((1 . 2))"},
		{"(&optional a (b 7 c))", "nil", "(nil 7 nil)"},
		{"(&optional a (b 7 c))", "(1 nil)", "(1 nil t)"},
		{"(&optional a)", "(1 2)", "bad"},
		{"(&optional a)", "(1 . 2)", "bad"},
		{"(&optional a)", "5", "bad"},
		{"(&optional a . b)", "(1 . 2)", "(1 2)"},
		{"(a &optional (b a) &aux (c (list a b)))", "(1)", "(1 1 (1 1))"},
		{"(&whole w a &environment e)", "(1)", "((1) 1 nil)"},
		{"((a b) . c)", "((1 2) 3)", "(1 2 (3))"},
		{"((a b) . c)", "(5 3)", "bad"},
		{"(nil a)", "(nil 1)", "(1)"},
		{"(nil a)", "(5 1)", "bad"},
		{"(&optional ((a b) '(1 2) c))", "nil", "(1 2 nil)"},
		{"(&optional ((a b) '(1 2) c))", "((3 4))", "(3 4 t)"},
		{"(&optional ((a b)))", "nil", "bad"},
		{"(&key a (b 7 c))", "(:b nil :b 2 :a 1)", "(1 nil t)"},
		{"(&key a (b 7 c))", "nil", "(nil 7 nil)"},
		{"(&key a)", "(:a)", "bad"},
		{"(&key a)", "(:b)", "bad"},
		{"(&key a)", "(:a 1 . 2)", "bad"},
		{"(&key a)", "5", "bad"},
		{"(&key a)", "(:c 1)", "bad"},
		{"(&key a)", "(5 1)", "bad"},
		{"(&key a)", "(:c 1 :allow-other-keys t)", "(nil)"},
		{"(&key a)", "(:c 1 :allow-other-keys nil :allow-other-keys t)", "bad"},
		{"(&key a &allow-other-keys)", "(:c 1 5 6 :a 2)", "(2)"},
		{"(&key a &allow-other-keys)", "(:c)", "bad"},
		{"(&key ((k a) 7) ((:l (b . c)) '(8 9)))", "(:l (1 2))", "(7 1 (2))"},
		{"(&key ((k a) 7) ((:l (b . c)) '(8 9)))", "(k 1)", "(1 8 (9))"},
		{"(a &rest r &key b)", "(1 :b 2)", "(1 (:b 2) 2)"},
		{"(a &rest r &key b)", "(1 :c 2)", "bad"},
		{"(((a &key b) . c))", "(((1 :b 2) 3))", "(1 2 (3))"},
		{"((((((a))))))", "((((((1))))))", "(1)"},
	} {
		if got := bound(t, parse(t, c.list, true), read(t, c.arg)); got != c.want {
			t.Errorf("Bind(%s) of %s is %s; want %s", c.list, c.arg, got, c.want)
		}
	}
}

// Fresh symbols, the form and the body.
func TestBindForm(t *testing.T) {
	l := parse(t, "(a &optional b &rest c &key d)", true)
	from := forms.Call("LIST", []api.Form{{Kind: api.FormInt, Text: "1"}})
	body := readAll(t, "(declare (special a)) (foo) a")
	f, next, e := lambda.Bind(l, from, body, 7)
	if e != api.OK || !forms.Is(f.Kids[0], "COMMON-LISP", "LET*") {
		t.Fatalf("Bind = %s, %v", text(f), e)
	}
	fresh := map[string]bool{}
	var look func(f api.Form)
	look = func(f api.Form) {
		if f.Home == "%" {
			n, err := strconv.Atoi(f.Text)
			if err != nil || n < 7 || n >= next {
				t.Errorf("a fresh symbol %s; they are from 7 to %d", f.Text, next-1)
			}
			fresh[f.Text] = true
		}
		for _, k := range f.Kids {
			look(k)
		}
	}
	look(f)
	if len(fresh) != next-7 {
		t.Errorf("%d fresh symbols, and the next one is %d", len(fresh), next)
	}
	if got := texts(f.Kids[2 : len(f.Kids)-1]); got != texts(body) {
		t.Errorf("the body is %s", got)
	}
	if n := strings.Count(text(f), "(list 1)"); n != 1 {
		t.Errorf("the form from stands there %d times", n)
	}
	if f, next, e := lambda.Bind(parse(t, "nil", false), from, nil, 3); e != api.OK || len(f.Kids) != 3 || next < 4 {
		t.Errorf("Bind without a body: %s, %d, %v", text(f), next, e)
	}
}

// What fits is looked at ahead of init forms, and these are evaluated once, in order, and only where something is missing.
func TestBindOrder(t *testing.T) {
	for _, c := range []struct{ list, arg, want string }{
		{"(&optional (a (note 1)) (b (note 2)) &key (c (note 3)) (d (note 4)) &aux (e (note 5)) f)", "nil", "(1 2 3 4 5)"},
		{"(&optional (a (note 1)) (b (note 2)) &key (c (note 3)) (d (note 4)) &aux (e (note 5)))", "(8 9 :d 7)", "(3 5)"},
		{"(&optional (a (note 1)) ((b) (note 2)))", "nil", "bad"},
		{"(&optional ((a &optional (b (note 1))) (note 2)) &aux (c (note 3)))", "(nil)", "bad"},
		{"(&optional ((&optional (b (note 1))) (note '(2))) &aux (c (note 3)))", "nil", "((2) 3)"},
		{"(&optional ((&optional (b (note 1))) (note '(2))) &aux (c (note 3)))", "(nil)", "(1 3)"},
	} {
		l := parse(t, c.list, true)
		f, _, e := lambda.Bind(l, forms.Call("QUOTE", []api.Form{read(t, c.arg)}), []api.Form{read(t, "(reverse notes)")}, 0)
		if e != api.OK {
			t.Fatal(e)
		}
		notes := read(t, "(let (notes) (flet ((note (x) (setq notes (cons x notes)) x)) here))")
		notes.Kids[2].Kids[2] = f
		if got := evaluate(t, notes); got != c.want {
			t.Errorf("Bind(%s) of %s evaluates %s; want %s", c.list, c.arg, got, c.want)
		}
	}
	// Nothing is evaluated if the list itself does not fit.
	l := parse(t, "(&aux (a (setq seen t)) &environment e)", true)
	f, _, _ := lambda.Bind(l, read(t, "'(1)"), nil, 0)
	seen := read(t, "(let (seen) (flet ((%bad-form () (return-from all (list seen)))) here))")
	seen.Kids[2].Kids[2] = f
	f = forms.Call("BLOCK", []api.Form{forms.Symbol("COMMON-LISP", "ALL"), seen})
	if got := evaluate(t, f); got != "(nil)" {
		t.Errorf("ahead of the error something was evaluated: %s", got)
	}
}

// A model binds variables by what the chapter says of Match, with values of init forms where something is missing.
type model struct {
	t      *testing.T
	values []string
	failed bool
}

func (m *model) value(init api.Form) api.Form {
	switch text(init) {
	case "(list 1)":
		return read(m.t, "(1)")
	default:
		return init
	}
}

func (m *model) target(item lambda.Item, f api.Form) {
	if item.Pattern != nil {
		m.list(*item.Pattern, f)
	} else {
		m.values = append(m.values, text(f))
	}
}

func (m *model) optional(item lambda.Item, f api.Form, given bool) {
	if !given {
		f = m.value(item.Init)
	}
	m.target(item, f)
	if item.Given.Kind != 0 {
		m.values = append(m.values, map[bool]string{true: "t", false: "nil"}[given])
	}
}

func (m *model) list(l lambda.List, all api.Form) {
	elements, tail := forms.Spread(all)
	least, most := lambda.Arity(l)
	isList := len(elements) > 0 || forms.IsNil(all)
	hasRest := false
	positional := 0
	for _, item := range l.Items {
		hasRest = hasRest || item.Kind == lambda.Rest
		if item.Kind <= lambda.Optional {
			positional++
		}
	}
	isProper := forms.IsNil(tail)
	if !isList || len(elements) < least || most >= 0 && len(elements) > most || !isProper && (!hasRest || l.Keys) {
		m.failed = true
		return
	}
	pairs := map[string]api.Form{}
	if l.Keys {
		m.pairs(l, elements[min(len(elements), positional):], pairs)
	}
	for _, item := range l.Items {
		if m.failed {
			return
		}
		switch item.Kind {
		case lambda.Required:
			m.target(item, elements[0])
			elements = elements[1:]
		case lambda.Optional:
			if len(elements) > 0 {
				m.optional(item, elements[0], true)
				elements = elements[1:]
			} else {
				m.optional(item, api.Form{}, false)
			}
		case lambda.Rest:
			m.values = append(m.values, text(forms.Dotted(elements, tail)))
		case lambda.Whole:
			m.values = append(m.values, text(all))
		case lambda.Key:
			f, ok := pairs[text(item.Key)]
			m.optional(item, f, ok)
		default:
			m.values = append(m.values, text(item.Init))
		}
	}
}

func (m *model) pairs(l lambda.List, left []api.Form, pairs map[string]api.Form) {
	const allow = ":allow-other-keys"
	known := map[string]bool{allow: true}
	for _, item := range l.Items {
		if item.Kind == lambda.Key {
			known[text(item.Key)] = true
		}
	}
	for i, f := range left {
		if _, ok := pairs[text(f)]; i%2 == 0 && !ok && i+1 < len(left) {
			pairs[text(f)] = left[i+1]
		}
	}
	f, ok := pairs[allow]
	allowed := l.Allow || ok && !forms.IsNil(f)
	for i := 0; i < len(left); i += 2 {
		if !allowed && !known[text(left[i])] {
			m.failed = true
		}
	}
	m.failed = m.failed || len(left)%2 != 0
}

// What the form of Bind does is what the model says, and what Match says where nothing is missing.
func TestBindLaws(t *testing.T) {
	fits, matched := 0, 0
	lists(t, func(s string, macro bool, r *rand.Rand) {
		l := parse(t, s, macro)
		for range 3 {
			args := arguments(r, 2)
			arg := forms.List(args)
			m := &model{t: t}
			m.list(l, arg)
			want := "(" + strings.Join(m.values, " ") + ")"
			if m.failed {
				want = "bad"
			} else if fits++; len(m.values) == 0 {
				want = "nil"
			}
			got := bound(t, l, arg)
			if got != want {
				t.Fatalf("Bind(%s) of %s is %s; want %s", s, text(arg), got, want)
			}
			bindings, e := lambda.Match(l, args)
			isMissing := false
			var values []string
			for _, b := range bindings {
				isMissing = isMissing || b.Missing
				values = append(values, text(b.Value))
			}
			if e == api.OK && !isMissing {
				matched++
				if want := "(" + strings.Join(values, " ") + ")"; got != want && len(values) > 0 {
					t.Fatalf("Bind(%s) of %s is %s; Match tells %s", s, text(arg), got, want)
				}
			}
			if e != api.OK && got != "bad" {
				t.Fatalf("Bind(%s) of %s is %s; Match: %v", s, text(arg), got, e)
			}
		}
	})
	if fits < 150 || matched < 100 {
		t.Errorf("only %d lists fit, %d without anything missing", fits, matched)
	}
}
