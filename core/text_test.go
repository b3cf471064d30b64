package core_test

import (
	"math/rand"
	"reflect"
	"strings"
	"testing"

	"commonform/api"
	"commonform/core"
)

// The texts of all ops, and of forms.
func TestShow(t *testing.T) {
	x := symbol("P", "X y")
	for i, c := range []struct {
		c    api.Core
		text string
	}{
		{nothing(), "(const 1:COMMON-LISP:NIL)"},
		{api.Core{Op: api.CoreConst, Data: api.Form{Kind: api.FormVector}}, "(const 11::)"},
		{api.Core{Op: api.CoreConst, Data: api.Form{Kind: api.FormCons, Kids: []api.Form{x, {Kind: api.FormString, Text: "aé\n~-*+/<>=%&Z9_"}, symbol("", "")}}}, "(const 10::(1:P:X~20y 8::a~c3~a9~0a~7e-*+/<>=%&Z9~5f 1::))"},
		{api.Core{Op: api.CoreSpecial, Data: x}, "(special 1:P:X~20y)"},
		{api.Core{Op: api.CoreSetSpecial, Data: x, Kids: []api.Core{n(api.CoreProgn)}}, "(setspecial 1:P:X~20y (progn))"},
		{api.Core{Op: api.CoreFunction, Data: x}, "(function 1:P:X~20y)"},
		{api.Core{Op: api.CoreCallGlobal, Data: x, Kids: []api.Core{nothing(), nothing()}}, "(callglobal 1:P:X~20y (const 1:COMMON-LISP:NIL) (const 1:COMMON-LISP:NIL))"},
		{n(api.CoreLet, n(api.CoreProgn)), "(let [] (progn))"},
		{api.Core{Op: api.CoreBind, Syms: []api.Form{x, symbol("Q", "(")}, Kids: []api.Core{n(api.CoreProgn), n(api.CoreProgn), n(api.CoreProgn)}}, "(bind [1:P:X~20y 1:Q:~28] (progn) (progn) (progn))"},
		{n(api.CoreTagbody, n(api.CoreProgn)), "(tagbody [] (progn))"},
		{api.Core{Op: api.CoreLambda, N: 1, Kids: []api.Core{n(api.CoreProgn)}}, "(lambda 1 (progn))"},
	} {
		s, e := core.Show(c.c)
		if e != api.OK || s != c.text {
			t.Errorf("%d: Show = %s, %v; want %s", i, s, e, c.text)
		}
		back, e := core.Parse(c.text)
		if e != api.OK || !reflect.DeepEqual(back, c.c) {
			t.Errorf("%d: Parse = %+v, %v", i, back, e)
		}
	}
	for _, s := range []string{
		"(let [0 12] (const #1) (call (lambda 0 (progn))) (set 12 (var 0)))",
		"(labels [0 1] (lambda 0 (var 1)) (lambda 1 (progn)) (if (progn) (progn) (progn)))",
		"(lambda 1 {1 0 -1 -} {2 1 2 -} {3 3 -1 -} {4 4 -1 1::K} {4 5 6 :K} (var 0) (var 2) (var 3) (progv (var 4) (var 5) (var 6)))",
		"(block 3 (catch (progn) (throw (progn) (return 3 (progn)))))",
		"(tagbody [4 5] (go 5) (protect (go 4) (progn)) (valuescall (progn) (valuesfirst (progn))))",
	} {
		if got := show(t, tree(t, s)); got != s {
			t.Errorf("Show of Parse of %s is %s", s, got)
		}
	}
	if s, e := core.Show(api.Core{Op: api.CoreVar}); s != "" || e != api.ErrForm {
		t.Errorf("Show of a free variable: %q, %v", s, e)
	}
	if s, e := core.Show(chain(101)); s != "" || e != api.ErrForm {
		t.Errorf("Show of a tree that is too deep: %q, %v", s, e)
	}
}

func TestParseWrong(t *testing.T) {
	for _, s := range []string{
		"", "(", ")", "()", "progn", "(progn", "(progn))", "(progn) ", " (progn)", "( progn)", "(progn )", "(Progn)", "(progn(progn))", "(progn  (progn))", "(nothing)", "(set-special 1:P:X (progn))",
		"(const)", "(const 1)", "(const 1:P)", "(const 1:P:X:)", "(const 2::01)", "(const 02::1)", "(const +2::1)", "(const 1:P:~58)", "(const 1:P:~2)", "(const 1:P:~2A)", "(const 1:P:~)", "(const 1:P:~+5)", "(const 1:P:_)", "(const 11::())", "(const 11::(2::1 ))", "(const 11::(2::1)", "(const 1:P:X) (progn)", "(const -1::)",
		"(block 0)", "(block 00 (progn))", "(block +0 (progn))", "(block -1 (progn))", "(block (progn))", "(block 10000 (progn))", "(block 99999999999999999999 (progn))", "(block x (progn))",
		"(let (progn))", "(let [] )", "(let [0] (progn))", "(let [0,1] (progn) (progn) (progn))", "(let [ 0] (progn) (progn))", "(let [0 ] (progn) (progn))", "(let [0 1 (progn) (progn) (progn))", "(let [0  1] (progn) (progn) (progn))",
		"(lambda {1 0 -1 -} (progn))", "(lambda 0 {1 0 -1} (progn))", "(lambda 0 {1 0 -1 - } (progn))", "(lambda 0 {1 0 -1 -}(progn))", "(lambda 0 {1 0 -1 -)", "(lambda 0 {4 0 -1 -} (progn) (progn))", "(lambda 0 {1 0 -1 1:P:X} (progn))", "(lambda 2 (progn))",
		"(var 0)", "(go 0)", strings.Repeat("(progn ", 101) + "(progn" + strings.Repeat(")", 102), strings.Repeat("(", 19000), "(const " + strings.Repeat("11::(", 3000),
	} {
		if c, e := core.Parse(s); e != api.ErrForm || !isZero(c) {
			t.Errorf("Parse(%.60s) = %v; want ErrForm", s, e)
		}
	}
	const limit = 20000
	name := func(bytes int) string { return "(const 1:P:" + strings.Repeat("X", bytes-len("(const 1:P:)")) + ")" }
	if _, e := core.Parse(name(limit)); e != api.OK {
		t.Errorf("Parse of %d bytes: %v", limit, e)
	}
	if c, e := core.Parse(name(limit + 1)); e != api.ErrSize || !isZero(c) {
		t.Errorf("Parse of %d bytes: %v; want ErrSize", limit+1, e)
	}
}

// P19.3: there and back, also for texts that are changed at one place and still right.
func TestTexts(t *testing.T) {
	changed := 0
	trees(true, func(c api.Core, r *rand.Rand) {
		s, e := core.Show(c)
		if e != api.OK {
			t.Fatal(e)
		}
		back, e := core.Parse(s)
		again, e2 := core.Show(back)
		if e != api.OK || e2 != api.OK || again != s || !core.Same(c, back) {
			t.Fatalf("Parse(%s): %v; its text is %s", s, e, again)
		}
		for range 5 {
			at := r.Intn(len(s))
			other := s[:at] + string("0123456789 ()[]{}-:~ax"[r.Intn(22)]) + s[at+1:]
			back, e := core.Parse(other)
			if e == api.OK {
				changed++
				if again, e := core.Show(back); e != api.OK || again != other {
					t.Fatalf("Show of Parse of %s is %s, %v", other, again, e)
				}
			} else if e != api.ErrForm || !isZero(back) {
				t.Fatalf("Parse(%s): %v", other, e)
			}
		}
	})
	if changed < 50 {
		t.Errorf("only %d changed texts are right", changed)
	}
}
