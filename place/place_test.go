package place_test

import (
	"strings"
	"testing"

	"commonform/api"
	"commonform/forms"
	"commonform/place"
)

func TestStandard(t *testing.T) {
	var all []string
	for _, w := range place.Standard() {
		all = append(all, text(w.Reader)+" "+text(w.Writer))
	}
	want := "car rplaca, cdr rplacd, first rplaca, rest rplacd, aref %aset, svref %aset, gethash %puthash, symbol-value set, symbol-function %fset, fdefinition %fset, slot-value %set-slot-value"
	if got := strings.Join(all, ", "); got != want {
		t.Errorf("Standard() is %s", got)
	}
}

func TestConstant(t *testing.T) {
	for s, want := range map[string]bool{
		"5": true, "\"a\"": true, "#\\a": true, "#(a)": true, "nil": true, "t": true, ":a": true, "'a": true, "'(a)": true, "(quote nil)": true, "#1=a": true,
		"a": false, "p::nil": false, "p::t": false, "#:nil": false, "(quote)": false, "(quote a b)": false, "(quote a . b)": false, "(quote . a)": false, "(p::quote a)": false, "(f a)": false, "quote": false, "(nil)": false,
	} {
		if got := place.Constant(read(t, s)); got != want {
			t.Errorf("Constant(%s) = %v", s, got)
		}
	}
	for _, f := range []api.Form{{}, {Kind: api.FormRef, Text: "1"}, {Kind: 77}} {
		if !place.Constant(f) {
			t.Errorf("Constant(%v) is false", f)
		}
	}
	if place.Constant(api.Form{Kind: api.FormCons}) {
		t.Error("a cons without parts is a constant")
	}
}

func TestFresh(t *testing.T) {
	for n, want := range map[int]string{0: "0", 17: "17", -5: "-5", 1 << 40: "1099511627776"} {
		if got := place.Fresh(n); !forms.Equal(got, forms.Symbol("%", want)) {
			t.Errorf("Fresh(%d) = %v", n, got)
		}
	}
}

func TestDefine(t *testing.T) {
	f := read(t, "(defsetf p::r w)")
	l, e := place.Define([]place.Writer{{Reader: read(t, "(a)"), Writer: read(t, "b")}}, f)
	if e != api.OK || len(l) != 2 || text(l[0].Reader)+text(l[0].Writer)+text(l[1].Reader)+text(l[1].Writer) != "(a)bp::rw" {
		t.Errorf("Define: %v, %v", l, e)
	}
	for s, want := range map[string]api.Errno{
		"a": api.ErrForm, "nil": api.ErrForm, "(defsetf)": api.ErrForm, "(defsetf a)": api.ErrForm, "(defsetf a b c)": api.ErrForm, "(defsetf a . b)": api.ErrForm, "(defsetf a b . c)": api.ErrForm,
		"(p::defsetf a b)": api.ErrForm, "(defsetf nil b)": api.ErrForm, "(defsetf a t)": api.ErrForm, "(defsetf :a b)": api.ErrForm, "(defsetf a 5)": api.ErrForm, "(defsetf (a) b)": api.ErrForm, "(defsetf a 'b)": api.ErrForm,
	} {
		if l, e := place.Define(place.Standard(), read(t, s)); e != want || l != nil {
			t.Errorf("Define(%s) = %v, %v", s, l, e)
		}
	}
	if _, e := place.Define(nil, api.Form{Kind: api.FormRef, Text: "1"}); e != forms.ErrLabel {
		t.Errorf("Define of no form: %v", e)
	}
}

// The parts of a place: temps, values, stores, write and read.
func TestExpand(t *testing.T) {
	l := writers(t, "(defsetf r w)", "(defsetf car my-rplaca)", "(defsetf p::car other)")
	for _, c := range []struct {
		place, temps, values, stores, write, read string
		next                                      int
	}{
		{"x", "", "", "g5", "(setq x g5)", "x", 6},
		{"p::nil", "", "", "g5", "(setq p::nil g5)", "p::nil", 6},
		{"(r)", "", "", "g5", "(progn (w g5) g5)", "(r)", 6},
		{"(r 1 a 'b (c) :d nil #(e))", "g5 g6", "a (c)", "g7", "(progn (w 1 g5 'b g6 :d nil #(e) g7) g7)", "(r 1 g5 'b g6 :d nil #(e))", 8},
		{"(car x)", "g5", "x", "g6", "(progn (my-rplaca g5 g6) g6)", "(car g5)", 7},
		{"(cdr x)", "g5", "x", "g6", "(progn (rplacd g5 g6) g6)", "(cdr g5)", 7},
		{"(cdr)", "", "", "g5", "(progn (rplacd g5) g5)", "(cdr)", 6},
		{"(nth n x)", "g5", "(nthcdr n x)", "g6", "(progn (my-rplaca g5 g6) g6)", "(car g5)", 7},
		{"(second x)", "g5", "(cdr x)", "g6", "(progn (my-rplaca g5 g6) g6)", "(car g5)", 7},
		{"(third x)", "g5", "(cdr (cdr x))", "g6", "(progn (my-rplaca g5 g6) g6)", "(car g5)", 7},
		{"(caar x)", "g5", "(car x)", "g6", "(progn (my-rplaca g5 g6) g6)", "(car g5)", 7},
		{"(cadr x)", "g5", "(cdr x)", "g6", "(progn (my-rplaca g5 g6) g6)", "(car g5)", 7},
		{"(cdar x)", "g5", "(car x)", "g6", "(progn (rplacd g5 g6) g6)", "(cdr g5)", 7},
		{"(cddr x)", "g5", "(cdr x)", "g6", "(progn (rplacd g5 g6) g6)", "(cdr g5)", 7},
		{"(p::cadr 1 2)", "", "", "g5", "(progn (p::|(SETF CADR)| g5 1 2) g5)", "(p::cadr 1 2)", 6},
		{"(p::car x)", "g5", "x", "g6", "(progn (other g5 g6) g6)", "(p::car g5)", 7},
		{"(the (f) x)", "", "", "g5", "(setq x g5)", "(the (f) x)", 6},
		{"(the t (the s (r x)))", "g5", "x", "g6", "(progn (w g5 g6) g6)", "(the t (the s (r g5)))", 7},
		{"(values)", "", "", "", "(values)", "(values)", 5},
		{"(values x (r y) (values z (the t (cdr u))))", "g6 g9", "y u", "g5 g7 g8 g10", "(values (setq x g5) (progn (w g6 g7) g7) (values (setq z g8) (progn (rplacd g9 g10) g10)))",
			"(values x (r g6) (values z (the t (cdr g9))))", 11},
		{"(f)", "", "", "g5", "(progn (|(SETF F)| g5) g5)", "(f)", 6},
		{"(p::f a 1 b)", "g5 g6", "a b", "g7", "(progn (p::|(SETF F)| g7 g5 1 g6) g7)", "(p::f g5 1 g6)", 8},
		{"(#:f)", "", "", "g5", "(progn (#:|(SETF F)| g5) g5)", "(#:f)", 6},
		{"(quote a)", "g5", "a", "g6", "(progn (|(SETF QUOTE)| g6 g5) g6)", "(quote g5)", 7},
		{"(setq a b)", "g5 g6", "a b", "g7", "(progn (|(SETF SETQ)| g7 g5 g6) g7)", "(setq g5 g6)", 8},
	} {
		p, next, e := place.Expand(l, read(t, c.place), 5)
		if e != api.OK || next != c.next {
			t.Errorf("Expand(%s): %d, %v", c.place, next, e)
			continue
		}
		got := []string{texts(p.Temps), texts(p.Values), texts(p.Stores), text(p.Write), text(p.Read)}
		for i, s := range []string{c.temps, c.values, c.stores, c.write, c.read} {
			want := read(t, "("+s+")")
			if w, _ := forms.Items(want); got[i] != texts(w) {
				t.Errorf("Expand(%s) has %s; want %s", c.place, got[i], texts(w))
			}
		}
	}
}

// Of several writers the last one counts; readers may be any forms.
func TestWriters(t *testing.T) {
	l := []place.Writer{{Reader: read(t, "the"), Writer: read(t, "a")}, {Reader: read(t, "5"), Writer: read(t, "(b)")}, {Reader: read(t, "the"), Writer: read(t, "c")}, {Reader: read(t, "nth"), Writer: read(t, "d")}}
	for s, want := range map[string]string{
		"(the x)":   "(progn (c g0 g1) g1)",
		"(5)":       "(progn ((b) g0) g0)",
		"(nth 1 2)": "(progn (d 1 2 g0) g0)",
		"(cdr x)":   "(progn (|(SETF CDR)| g1 g0) g1)",
	} {
		p, _, e := place.Expand(l, read(t, s), 0)
		if got := text(p.Write); e != api.OK || got != text(read(t, want)) {
			t.Errorf("Expand(%s) writes %s, %v; want %s", s, got, e, want)
		}
	}
	for _, s := range []string{"(second x)", "(cddr x)", "(third x)"} {
		if _, _, e := place.Expand(l, read(t, s), 0); e != place.ErrPlace {
			t.Errorf("Expand(%s) without a writer: %v", s, e)
		}
	}
}

func TestExpandErrors(t *testing.T) {
	for s, want := range map[string]api.Errno{
		"5": place.ErrPlace, "nil": place.ErrPlace, "t": place.ErrPlace, ":a": place.ErrPlace, "\"a\"": place.ErrPlace, "#(a)": place.ErrPlace, "#1=a": place.ErrPlace, "((f) x)": place.ErrPlace, "(5)": place.ErrPlace, "(nil)": place.ErrPlace,
		"(:a x)": place.ErrPlace, "(t)": place.ErrPlace, "(f . x)": place.ErrPlace, "(car x . y)": place.ErrPlace, "(car . #1=(x))": place.ErrPlace,
		"(nth 1)": place.ErrPlace, "(nth 1 2 3)": place.ErrPlace, "(second)": place.ErrPlace, "(second x y)": place.ErrPlace, "(third x y)": place.ErrPlace, "(caar)": place.ErrPlace, "(cadr x y)": place.ErrPlace, "(cdar)": place.ErrPlace,
		"(cddr x y)": place.ErrPlace, "(cdar x . y)": place.ErrPlace, "(the)": place.ErrPlace, "(the t)": place.ErrPlace, "(the t x y)": place.ErrPlace, "(the t 5)": place.ErrPlace, "(values 5)": place.ErrPlace, "(values x (the t))": place.ErrPlace,
		"(values . x)": place.ErrPlace, "(the t (values x 5))": place.ErrPlace,
		"(car #1=(x . #1#))": api.OK, "(f #1=(x) #1#)": api.OK, "(f '#1=(a) #1#)": api.OK, "(f (g #1=(x)) #1#)": api.ErrSize, "(values (f '#1=(a)) (f '#1#))": api.OK, "#1=(x . #1#)": place.ErrPlace,
	} {
		p, next, e := place.Expand(place.Standard(), read(t, s), 0)
		if e != want || e != api.OK && (next != 0 || len(p.Temps)+len(p.Values)+len(p.Stores) != 0 || p.Write.Kind+p.Read.Kind != 0) {
			t.Errorf("Expand(%s) = %v, %d, %v; want %v", s, p, next, e, want)
		}
	}
}

// The error of the form comes first, then that of fresh, then that of the place.
func TestErrorOrder(t *testing.T) {
	bad, no, fine := api.Form{Kind: api.FormRef, Text: "1"}, read(t, "5"), read(t, "x")
	for _, c := range []struct {
		form  api.Form
		fresh int
		e     api.Errno
	}{
		{bad, -1, forms.ErrLabel}, {no, -1, api.ErrArg}, {no, 1<<30 + 1, api.ErrArg}, {no, 0, place.ErrPlace}, {fine, -1, api.ErrArg}, {fine, 0, api.OK}, {fine, 1 << 30, api.OK}, {fine, 1<<30 + 1, api.ErrArg},
	} {
		if _, _, e := place.Expand(nil, c.form, c.fresh); e != c.e {
			t.Errorf("Expand(%v, %d): %v; want %v", c.form, c.fresh, e, c.e)
		}
		if c.e == place.ErrPlace {
			c.e = api.ErrForm
		}
		f := forms.Call("SETF", nil)
		if c.form.Kind != api.FormSymbol {
			f = c.form
		}
		if _, _, e := place.Macro(nil, f, c.fresh); e != c.e {
			t.Errorf("Macro(%v, %d): %v; want %v", f, c.fresh, e, c.e)
		}
	}
}

// Nothing is too deep or too large that fits, and nothing fits that is too deep or too large.
func TestSizes(t *testing.T) {
	nested := func(n int, f api.Form) api.Form {
		for range n {
			f = forms.Call("F", []api.Form{f})
		}
		return f
	}
	many := func(n int) api.Form {
		var l []api.Form
		for range n {
			l = append(l, forms.Nil())
		}
		return forms.Call("CAR", []api.Form{forms.Call("QUOTE", []api.Form{forms.List(l)})})
	}
	for _, c := range []struct {
		what string
		form api.Form
		e    api.Errno
	}{
		{"a deep value", forms.Call("CAR", []api.Form{nested(98, forms.Nil())}), api.OK},
		{"a deep constant", forms.Call("CAR", []api.Form{forms.Call("QUOTE", []api.Form{nested(95, forms.Nil())})}), api.OK},
		{"a constant that is too deep in the write", forms.Call("CAR", []api.Form{forms.Call("QUOTE", []api.Form{nested(97, forms.Nil())})}), api.ErrSize},
		{"a large constant", many(1980), api.OK},
		{"a constant that is too large", many(1993), api.ErrSize},
		{"a name that is no UTF-8", forms.Call("\xff", nil), api.ErrForm},
	} {
		if _, _, e := place.Expand(place.Standard(), c.form, 0); e != c.e {
			t.Errorf("%s: %v; want %v", c.what, e, c.e)
		}
	}
	wrong := []place.Writer{{Reader: read(t, "f"), Writer: api.Form{Kind: 77}}}
	if _, _, e := place.Expand(wrong, read(t, "(f)"), 0); e != api.ErrSize {
		t.Errorf("a writer that is no form: %v", e)
	}
	if _, _, e := place.Macro(wrong, read(t, "(setf (f) 1)"), 0); e != api.ErrSize {
		t.Errorf("SETF with a writer that is no form: %v", e)
	}
}
