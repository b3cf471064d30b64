package lambda_test

import (
	"math/rand"
	"slices"
	"testing"

	"commonform/api"
	"commonform/forms"
	"commonform/lambda"
)

func TestMatch(t *testing.T) {
	for _, c := range []struct{ list, args, want string }{
		{"nil", "", ""},
		{"(a &optional (b 1 c) &rest d)", "5", "a=5 b- c=nil d=nil"},
		{"(a &optional (b 1 c) &rest d)", "5 6 7", "a=5 b=6 c=t d=(7)"},
		{"(&rest r)", "", "r=nil"},
		{"(&optional a b)", "1", "a=1 b-"},
		{"(&key x)", ":x 3", "x=3"},
		{"(&key x)", "", "x-"},
		{"(&key (x 1 xp) y)", ":y 2", "x- xp=nil y=2"},
		{"(&key (x 1 xp) y)", ":x nil :x 3", "x=nil xp=t y-"},
		{"(&key ((k x)))", "k 3", "x=3"},
		{"(&key x)", ":allow-other-keys t :y 3 :x 1", "x=1"},
		{"(&key x)", ":allow-other-keys nil :x 1 :allow-other-keys t", "x=1"},
		{"(&key allow-other-keys)", ":z 1 :allow-other-keys 2", "allow-other-keys=2"},
		{"(&key x &allow-other-keys)", "5 6 :x 1", "x=1"},
		{"(a &optional b &key c)", "1 :c :c 2", "a=1 b=:c c=2"},
		{"(a &rest r &key c)", "1 :c 2", "a=1 r=(:c 2) c=2"},
		{"(a &aux (b 1) c)", "1", "a=1 b- c-"},
		{"(&whole w a &environment e b)", "1 2", "w=(1 2) a=1 e- b=2"},
		{"((a b) . c)", "(1 2) 3", "a=1 b=2 c=(3)"},
		{"((a . b))", "(1)", "a=1 b=nil"},
		{"((a . b))", "(1 2 . 3)", "a=1 b=(2 . 3)"},
		{"((a &rest b))", "(1 . 3)", "a=1 b=3"},
		{"((a &optional b . c))", "(1 . 3)", "a=1 b- c=3"},
		{"(nil a)", "nil 1", "a=1"},
		{"((&optional a))", "nil", "a-"},
		{"(&optional ((a &optional (b 1 c)) 2 d))", "", "a- b- c- d=nil"},
		{"(&optional ((a &optional (b 1 c)) 2 d))", "(5)", "a=5 b- c=nil d=t"},
		{"(&key ((:k (a . b)) 1 g))", ":k (1 2)", "a=1 b=(2) g=t"},
		{"(((a) b))", "((1) 2)", "a=1 b=2"},
	} {
		got, e := lambda.Match(parse(t, c.list, true), readAll(t, c.args))
		if e != api.OK || describeAll(got) != c.want {
			t.Errorf("Match(%s, %s) = %s, %v; want %s", c.list, c.args, describeAll(got), e, c.want)
		}
	}
}

func TestMatchErrors(t *testing.T) {
	for _, c := range []struct {
		list, args string
		e          api.Errno
	}{
		{"nil", "1", api.ErrSize},
		{"(a)", "", api.ErrSize},
		{"(a)", "1 2", api.ErrSize},
		{"(a &optional b)", "1 2 3", api.ErrSize},
		{"(a &rest b)", "", api.ErrSize},
		{"(a &key b)", "", api.ErrSize},
		{"(&key x)", ":x", api.ErrForm},
		{"(&key x)", ":y", api.ErrForm},
		{"(&key x)", ":y 3", api.ErrNone},
		{"(&key x)", "5 3", api.ErrNone},
		{"(&key)", ":x 3", api.ErrNone},
		{"(&key x)", ":x 3 :y 4", api.ErrNone},
		{"(&key x)", ":x 3 :x 4 :y", api.ErrForm},
		{"(&key x)", ":allow-other-keys nil :y 3", api.ErrNone},
		{"(&key x)", ":y 3 :allow-other-keys nil :allow-other-keys t", api.ErrNone},
		{"(&key x &allow-other-keys)", ":x", api.ErrForm},
		{"(&rest r &key x)", "1", api.ErrForm},
		{"((a))", "1", api.ErrForm},
		{"((a))", "#(1)", api.ErrForm},
		{"(nil)", "5", api.ErrForm},
		{"((&rest r))", "5", api.ErrForm},
		{"((a))", "(1 2)", api.ErrSize},
		{"((a))", "nil", api.ErrSize},
		{"((a))", "(1 . 2)", api.ErrForm},
		{"((a b))", "(1 . 2)", api.ErrSize},
		{"((&rest r &key x))", "(:x 1 . 2)", api.ErrForm},
		{"((a) (b))", "(1 2) 5", api.ErrSize},
		{"((a) (b))", "5 (1 2)", api.ErrForm},
		{"((&key a) b)", "(:b 1) 2", api.ErrNone},
		{"((a) b)", "5", api.ErrSize},
		{"((a) &key b)", "5 :c 1", api.ErrNone},
		{"((a) &key b)", "5 :c", api.ErrForm},
		{"(&optional ((a)))", "5", api.ErrForm},
	} {
		if got, e := lambda.Match(parse(t, c.list, true), readAll(t, c.args)); e != c.e || got != nil {
			t.Errorf("Match(%s, %s) = %s, %v; want %v", c.list, c.args, describeAll(got), e, c.e)
		}
	}
}

// arguments makes some arguments that often fit.
func arguments(r *rand.Rand, depth int) []api.Form {
	keys := []string{"V1", "V2", "V3", "V4", "A1", "B2", "ALLOW-OTHER-KEYS"}
	var l []api.Form
	for range r.Intn(5) {
		switch n := r.Intn(6); {
		case n < 2 && depth > 0:
			part := arguments(r, depth-1)
			if r.Intn(4) == 0 && len(part) > 0 {
				l = append(l, forms.Dotted(part, forms.Symbol("", "TAIL")))
			} else {
				l = append(l, forms.List(part))
			}
		case n == 2:
			l = append(l, forms.Symbol("KEYWORD", keys[r.Intn(len(keys))]), forms.Nil())
		default:
			l = append(l, api.Form{Kind: api.FormInt, Text: string(rune('1' + r.Intn(9)))})
		}
	}
	return l
}

// P18.3 and P18.4: each variable once and in order, and ErrSize just where the number is wrong.
func TestMatchLaws(t *testing.T) {
	matched := 0
	lists(t, func(s string, macro bool, r *rand.Rand) {
		l := parse(t, s, macro)
		least, most := lambda.Arity(l)
		hasPattern := slices.ContainsFunc(l.Items, func(i lambda.Item) bool { return i.Pattern != nil })
		for range 20 {
			args := arguments(r, 2)
			got, e := lambda.Match(l, args)
			isWrong := len(args) < least || most >= 0 && len(args) > most
			if isWrong != (e == api.ErrSize) && !(hasPattern && !isWrong) {
				t.Fatalf("Match(%s) of %s: %v; there may be %d to %d", s, texts(args), e, least, most)
			}
			if e != api.OK {
				continue
			}
			matched++
			var bound []api.Form
			for _, b := range got {
				bound = append(bound, b.Var)
			}
			if texts(bound) != texts(lambda.Variables(l)) {
				t.Fatalf("Match(%s) binds %s", s, texts(bound))
			}
		}
	})
	if matched < 1000 {
		t.Errorf("only %d matches", matched)
	}
}

// P18.4: the order of pairs of different keys plays no part.
func TestMatchKeyOrder(t *testing.T) {
	l := parse(t, "(&key a b (c 1 d))", false)
	want, e := lambda.Match(l, readAll(t, ":a 1 :b 2 :c 3"))
	for _, args := range []string{":a 1 :c 3 :b 2", ":b 2 :a 1 :c 3", ":c 3 :b 2 :a 1", ":c 3 :b 2 :a 1 :a 4 :c 5"} {
		got, e2 := lambda.Match(l, readAll(t, args))
		if e != api.OK || e2 != api.OK || describeAll(got) != describeAll(want) {
			t.Errorf("Match of %s is %s; want %s", args, describeAll(got), describeAll(want))
		}
	}
}

// A result shares no memory with the arguments.
func TestMatchMemory(t *testing.T) {
	l := parse(t, "(&whole w a &rest r)", true)
	args := readAll(t, "(1 2) (3 4)")
	got, _ := lambda.Match(l, args)
	want := describeAll(got)
	args[0].Kids[0].Text = "9"
	args[1].Kids[0].Text = "9"
	got[0].Value.Kids[0].Kids[0].Text = "8"
	if again := describeAll(got[1:]); again != want[len("w=((1 2) (3 4)) "):] {
		t.Errorf("after a change: %s; before: %s", again, want)
	}
}
