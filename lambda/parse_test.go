package lambda_test

import (
	"math/rand"
	"strings"
	"testing"

	"commonform/api"
	"commonform/forms"
	"commonform/lambda"
)

func TestParse(t *testing.T) {
	for _, c := range []struct {
		list, functions, macros string // what the list says to both; "-" if nothing
	}{
		{"nil", "", ""},
		{"(a b)", "1:a 1:b", "1:a 1:b"},
		{"(a &optional (b 1 c) &rest d)", "1:a 2:b=1?c 3:d", "1:a 2:b=1?c 3:d"},
		{"(&optional a (b) (c 2))", "2:a 2:b 2:c=2", "2:a 2:b 2:c=2"},
		{"(&optional)", "", ""},
		{"(&body a)", "3:a", "3:a"},
		{"(&key)", "keys", "keys"},
		{"(&key &allow-other-keys)", "keys allow", "keys allow"},
		{"(&key x (y) ((k z) 3 zp))", "4:x@:x 4:y@:y 4:z=3?zp@k keys", "4:x@:x 4:y@:y 4:z=3?zp@k keys"},
		{"(&key ((nil z)) ((t y)) ((&rest x)))", "4:z@nil 4:y@t 4:x@&rest keys", "4:z@nil 4:y@t 4:x@&rest keys"},
		{"(&aux a (b) (c 1))", "5:a 5:b 5:c=1", "5:a 5:b 5:c=1"},
		{"(a &rest r &key k &allow-other-keys &aux x)", "1:a 3:r 4:k@:k 5:x keys allow", "1:a 3:r 4:k@:k 5:x keys allow"},
		{"(#:a #:nil)", "1:#:a 1:#:nil", "1:#:a 1:#:nil"},
		{"(&optional (a #1=(x)) (b #1#))", "2:a=(x) 2:b=?", "2:a=(x) 2:b=?"},
		{"(#:&rest #:t reader::&key)", "1:#:&rest 1:#:t 1:reader::&key", "1:#:&rest 1:#:t 1:reader::&key"},
		{"(a . b)", "-", "1:a 3:b"},
		{"((a b) . c)", "-", "1:[1:a 1:b] 3:c"},
		{"(nil a)", "-", "1:[] 1:a"},
		{"(&optional a . b)", "-", "2:a 3:b"},
		{"(&optional ((a . b)) (nil 1 g))", "-", "2:[1:a 3:b] 2:[]=1?g"},
		{"(&key ((:k (a &key b)) 3))", "-", "4:[1:a 4:b@:b keys]=3@:k keys"},
		{"(&whole w a)", "-", "6:w 1:a"},
		{"(&whole w . r)", "-", "6:w 3:r"},
		{"(&environment e)", "-", "7:e"},
		{"(&whole w &environment e a)", "-", "6:w 7:e 1:a"},
		{"(a &environment e b)", "-", "1:a 7:e 1:b"},
		{"(a &environment e . b)", "-", "1:a 7:e 3:b"},
		{"(&optional &environment e a)", "-", "7:e 2:a"},
		{"(&rest r &environment e &key &environment)", "-", "-"},
		{"(&rest r &environment e &key)", "-", "3:r 7:e keys"},
		{"(&key a &environment e b)", "-", "4:a@:a 7:e 4:b@:b keys"},
		{"(&key &allow-other-keys &environment e)", "-", "7:e keys allow"},
		{"(&aux a &environment e)", "-", "5:a 7:e"},
	} {
		for macro, want := range map[bool]string{false: c.functions, true: c.macros} {
			l, e := lambda.Parse(read(t, c.list), macro)
			isWrong := e == api.ErrForm && len(l.Items) == 0 && !l.Keys && !l.Allow
			if want == "-" && !isWrong || want != "-" && (e != api.OK || strings.ReplaceAll(describe(l), " ", "") != strings.ReplaceAll(want, " ", "")) {
				t.Errorf("Parse(%s, %v) = %q, %v; want %q", c.list, macro, describe(l), e, want)
			}
		}
	}
}

// What is no lambda list at all.
func TestParseWrong(t *testing.T) {
	for _, s := range []string{
		"a", "5", "(5)", "(t)", "(:a)", "(\"a\")", "(&whole)", "(&whole nil)", "(a &whole w)", "(&environment e &whole w)",
		"(&environment)", "(&environment e &environment f)", "(&environment nil)", "((&whole w a))", "((&environment e a))",
		"(&optional 5)", "(&optional nil)", "(&optional t)", "(&optional (a 1 b 2))", "(&optional (a 1 nil))", "(&optional (a 1 :b))", "(&optional (a . 1))", "(&optional ((a 1 . 2)))",
		"(&optional a &optional b)", "(&rest)", "(&rest a b)", "(&rest (a))", "(&rest nil)", "(&rest a &rest b)", "(&rest a &body b)", "(&rest &key a)", "(&rest a &optional b)",
		"(&key a &optional b)", "(&key a &rest b)", "(&key a &key b)", "(&key nil)", "(&key 5)", "(&key (a 1 b 2))", "(&key ((:a)))", "(&key ((:a b c)))", "(&key ((5 b)))", "(&key ((:a 5)))", "(&key (nil))", "(&key ((:a . b)))", "(&key (a 1 5))",
		"(&allow-other-keys)", "(&key &allow-other-keys a)", "(&key &allow-other-keys &allow-other-keys)", "(&key &aux a &allow-other-keys)", "(&aux a &key b)", "(&aux a &aux b)", "(&aux (a 1 b))", "(&aux nil)", "(&aux (5))", "(&aux ((a b)))",
		"(a . 5)", "(a . &rest)", "(&key . a)", "(&rest a . b)", "(&rest . a)", "(&aux a . b)", "(a . t)", "((a . 5))", "(#1=a #1#)", "#1=(a)", "((#1=a) . #1#)", "(&optional (#(a)))",
	} {
		for _, macro := range []bool{false, true} {
			if l, e := lambda.Parse(read(t, s), macro); e != api.ErrForm || describe(l) != "" {
				t.Errorf("Parse(%s, %v) = %q, %v; want ErrForm", s, macro, describe(l), e)
			}
		}
	}
}

func TestParseTwice(t *testing.T) {
	for _, s := range []string{
		"(a a)", "(a &optional a)", "(&optional (a 1 a))", "(a &rest a)", "(a &key a)", "(a &aux a)", "(&aux a a)", "(&key ((:a b)) ((:a c)))", "(&key a ((:a b)))", "(#:a #:a)",
	} {
		for _, macro := range []bool{false, true} {
			if _, e := lambda.Parse(read(t, s), macro); e != api.ErrTwice {
				t.Errorf("Parse(%s, %v): %v; want ErrTwice", s, macro, e)
			}
		}
	}
	for _, s := range []string{"(a (a))", "((a b) (c a))", "(&whole a a)", "(a &environment a)", "(a . a)", "((&key a ((:a b))))", "(&optional ((a a)))", "(&key ((:k (x &optional (y 1 x)))))"} {
		if _, e := lambda.Parse(read(t, s), true); e != api.ErrTwice {
			t.Errorf("Parse(%s, true): %v; want ErrTwice", s, e)
		}
	}
	for _, s := range []string{"(a #:a reader::a)", "((&key ((:a b))) &key ((:a c)))", "(&key ((a b)) ((:a c)) ((#:a d)))"} {
		if _, e := lambda.Parse(read(t, s), true); e != api.OK {
			t.Errorf("Parse(%s, true): %v; want OK", s, e)
		}
	}
	// A list that is wrong and has a variable twice is wrong.
	if _, e := lambda.Parse(read(t, "(a a 5)"), true); e != api.ErrForm {
		t.Errorf("Parse of (a a 5): %v; want ErrForm", e)
	}
}

// The errors of forms come ahead of all others.
func TestParseErrors(t *testing.T) {
	many := make([]api.Form, api.MaxForm)
	for i := range many {
		many[i] = api.Form{Kind: api.FormInt, Text: "1"}
	}
	ref := api.Form{Kind: api.FormRef, Text: "0"}
	for _, c := range []struct {
		f api.Form
		e api.Errno
	}{
		{api.Form{}, api.ErrForm},
		{forms.List(many), api.ErrSize},
		{forms.List([]api.Form{{Kind: api.FormInt, Text: "01"}}), api.ErrForm},
		{forms.List([]api.Form{ref}), forms.ErrLabel},
		{api.Form{Kind: api.FormCons}, api.ErrForm},
	} {
		if _, e := lambda.Parse(c.f, true); e != c.e {
			t.Errorf("Parse: %v; want %v", e, c.e)
		}
	}
}

func TestVariablesAndArity(t *testing.T) {
	for _, c := range []struct {
		list        string
		variables   string
		least, most int
	}{
		{"nil", "", 0, 0},
		{"(a b)", "a b", 2, 2},
		{"(a &optional (b 1 c) &rest d)", "a b c d", 1, -1},
		{"(a &optional (b 1 c) d)", "a b c d", 1, 3},
		{"(&key)", "", 0, -1},
		{"(a &key (b 1 c) &aux d)", "a b c d", 1, -1},
		{"(&whole w (a (b . c)) &environment e &optional ((d) 1 f) &aux g)", "w a b c e d f g", 1, 2},
		{"(a . b)", "a b", 1, -1},
		{"((a . b))", "a b", 1, 1},
	} {
		l := parse(t, c.list, true)
		least, most := lambda.Arity(l)
		if got := texts(lambda.Variables(l)); got != c.variables || least != c.least || most != c.most {
			t.Errorf("%s has the variables %s, %d to %d; want %s, %d to %d", c.list, got, least, most, c.variables, c.least, c.most)
		}
	}
}

// writeInits writes the init form of each item, with those of its pattern in brackets; none for the zero form.
func writeInits(l lambda.List) string {
	var all []string
	for _, item := range l.Items {
		s := "none"
		if item.Init.Kind != 0 {
			s = text(item.Init)
		}
		if item.Pattern != nil {
			s += "[" + writeInits(*item.Pattern) + "]"
		}
		all = append(all, s)
	}
	return strings.Join(all, " ")
}

// An item for which no init form is written has NIL, whatever its kind, and so it is behind Show.
func TestInits(t *testing.T) {
	for _, c := range []struct {
		list  string
		macro bool
		want  string
	}{
		{"(a &rest r)", false, "nil nil"},
		{"(a &body r)", false, "nil nil"},
		{"(a &optional b (c) (d 1) (e nil))", false, "nil nil nil 1 nil"},
		{"(a &key b (c) (d 1) ((:e f)) ((:g h) 2))", false, "nil nil nil 1 nil 2"},
		{"(a &rest r &key k &aux x (y) (z 3))", false, "nil nil nil nil nil 3"},
		{"(&whole w a &environment e)", true, "nil nil nil"},
		{"(&whole w a &optional (b 1) &environment e . r)", true, "nil nil 1 nil nil"},
		{"((p &rest q) a)", true, "nil[nil nil] nil"},
		{"(a . r)", true, "nil nil"},
		{"((p . q) (((s)) . u) . r)", true, "nil[nil nil] nil[nil[nil[nil]] nil] nil"},
		{"(nil a)", true, "nil[] nil"},
		{"(&optional ((a b)) ((c . d) 5) &key ((:k (e &aux f (g 6)))))", true, "nil[nil nil] 5[nil nil] nil[nil nil 6]"},
	} {
		l := parse(t, c.list, c.macro)
		f, e := lambda.Show(l)
		if e != api.OK {
			t.Fatalf("Show of %s: %v", c.list, e)
		}
		back, e := lambda.Parse(f, c.macro)
		if e != api.OK || writeInits(l) != c.want || writeInits(back) != c.want {
			t.Errorf("Parse(%s, %v) has the init forms %s, and %s behind Show, %v; want %s", c.list, c.macro, writeInits(l), writeInits(back), e, c.want)
		}
	}
	lists(t, func(s string, macro bool, r *rand.Rand) {
		if l := parse(t, s, macro); strings.Contains(writeInits(l), "none") {
			t.Fatalf("Parse(%s, %v) has the init forms %s", s, macro, writeInits(l))
		}
	})
}

// Parse gives each item an init form, so a list in which one has the zero form is said by no form.
func TestShowWithoutInit(t *testing.T) {
	for _, s := range []string{"(a)", "(&optional a)", "(&rest a)", "(&key a)", "(&aux a)", "(&whole a)", "(&environment a)", "((a))", "(b &optional (a nil c))"} {
		l := parse(t, s, true)
		l.Items[len(l.Items)-1].Init = api.Form{}
		if f, e := lambda.Show(l); e != api.ErrForm || f.Kind != 0 {
			t.Errorf("Show of %s without an init form: %s, %v; want ErrForm", s, text(f), e)
		}
		if f, n, e := lambda.Bind(l, forms.Nil(), nil, 3); e != api.ErrForm || f.Kind != 0 || n != 0 {
			t.Errorf("Bind of %s without an init form: %s, %d, %v; want ErrForm", s, text(f), n, e)
		}
	}
}

// P18.2: what Show writes is read as the list, for functions too if it was read so.
func TestShow(t *testing.T) {
	lists(t, func(s string, macro bool, r *rand.Rand) {
		l := parse(t, s, macro)
		f, e := lambda.Show(l)
		if e != api.OK {
			t.Fatalf("Show of %s: %v", s, e)
		}
		back, e := lambda.Parse(f, macro)
		if e != api.OK || describe(back) != describe(l) {
			t.Fatalf("Parse of Show of %s is %q, %v", s, describe(back), e)
		}
		met := map[string]bool{}
		for _, v := range lambda.Variables(l) {
			if met[text(v)] {
				t.Fatalf("%s has %s twice", s, text(v))
			}
			met[text(v)] = true
		}
	})
}

// A list that has room with a tail alone is shown with one.
func TestShowLong(t *testing.T) {
	var l []api.Form
	for i := range api.MaxForm - 2 {
		l = append(l, forms.Symbol("", "V"+string(rune('0'+i%10))+strings.Repeat("X", i/10)))
	}
	long, e := lambda.Parse(forms.Dotted(l, forms.Symbol("", "R")), true)
	if e != api.OK {
		t.Fatal(e)
	}
	f, e := lambda.Show(long)
	if e != api.OK {
		t.Fatalf("Show of a long list: %v", e)
	}
	back, e := lambda.Parse(f, true)
	if e != api.OK || len(back.Items) != len(long.Items) {
		t.Errorf("Parse of Show of a long list: %d items, %v", len(back.Items), e)
	}
}

// Lists that Parse does not return are shown by no form; no function ends late with them.
func TestWrongLists(t *testing.T) {
	a := forms.Symbol("", "A")
	loop := lambda.List{Items: []lambda.Item{{Kind: lambda.Required, Pattern: &lambda.List{}}, {Kind: lambda.Optional, Init: forms.Nil(), Pattern: &lambda.List{}}}}
	*loop.Items[0].Pattern = loop
	*loop.Items[1].Pattern = loop
	for i, l := range []lambda.List{
		loop,
		{Allow: true},
		{Items: []lambda.Item{{Kind: 9, Var: a, Init: forms.Nil()}}},
		{Items: []lambda.Item{{Kind: lambda.Required, Init: forms.Nil()}}},
		{Items: []lambda.Item{{Kind: lambda.Key, Var: a, Init: forms.Nil(), Key: a}}},
		{Items: []lambda.Item{{Kind: lambda.Rest, Var: a, Init: forms.Nil()}, {Kind: lambda.Required, Var: forms.Symbol("", "B"), Init: forms.Nil()}}},
		{Items: []lambda.Item{{Kind: lambda.Required, Var: a, Init: forms.Nil()}, {Kind: lambda.Required, Var: a, Init: forms.Nil()}}},
		{Items: []lambda.Item{{Kind: lambda.Required, Var: a, Init: forms.Nil(), Key: a}}},
		{Items: []lambda.Item{{Kind: lambda.Required, Var: forms.Nil(), Init: forms.Nil()}}},
	} {
		if f, e := lambda.Show(l); e != api.ErrForm || f.Kind != 0 {
			t.Errorf("%d: Show: %v; want ErrForm", i, e)
		}
		if f, n, e := lambda.Bind(l, a, nil, 3); e != api.ErrForm || f.Kind != 0 || n != 0 {
			t.Errorf("%d: Bind: %d, %v; want ErrForm", i, n, e)
		}
		lambda.Variables(l)
		lambda.Arity(l)
		lambda.Match(l, []api.Form{a, forms.List([]api.Form{a})})
	}
}
