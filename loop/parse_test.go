package loop_test

import (
	"slices"
	"strings"
	"testing"

	"commonform/api"
	"commonform/forms"
	"commonform/loop"
)

func TestSimple(t *testing.T) {
	for s, want := range map[string]bool{"(loop)": true, "(loop (a) (b))": true, "(loop (a) b)": false, "(loop 5)": false, "(loop nil)": false, "(loop do (a))": false, "(loop #(a))": false} {
		if is, e := loop.Simple(read(t, s)); e != api.OK || is != want {
			t.Errorf("Simple(%s) = %v, %v", s, is, e)
		}
	}
	for _, s := range []string{"loop", "nil", "(list)", "(p::loop)", "((loop))", "(loop . a)", "(loop (a) . b)", "5"} {
		if is, e := loop.Simple(read(t, s)); e != api.ErrForm || is {
			t.Errorf("Simple(%s) = %v, %v", s, is, e)
		}
	}
	if _, e := loop.Simple(api.Form{Kind: api.FormRef, Text: "1"}); e != forms.ErrLabel {
		t.Errorf("Simple of no form: %v", e)
	}
}

// clauses are parts of LOOP forms, and what they say.
func clauses() [][2]string {
	return [][2]string{
		{"named a", "named=a"},
		{"named nil", "named=nil"},
		{"named :a", "named=:a"},
		{"with a", "with=a nil"},
		{"with a = (b)", "with=a (b)"},
		{"with a = 1 with b", "with=a 1; with=b nil"},
		{"with = = =", "with== ="},
		{"initially (a) (b)", "initially (a) (b)"},
		{"finally (a)", "finally (a)"},
		{"for v in x", "in=v x"},
		{"as v in x by y", "in=v x y"},
		{"for v on x", "on=v x"},
		{"for v on x by y", "on=v x y"},
		{"for v across x", "across=v x"},
		{"for v = x", "equals=v x"},
		{"for v = x then y", "equals=v x y"},
		{"for in in in", "in=in in"},
		{"for v from 1", "arithmetic=v 1 nil 1 0"},
		{"for v upfrom 1", "arithmetic=v 1 nil 1 0"},
		{"for v downfrom 9", "arithmetic=v 9 nil 1 2"},
		{"for v to x", "arithmetic=v 0 x 1 0"},
		{"for v upto x", "arithmetic=v 0 x 1 0"},
		{"for v below x", "arithmetic=v 0 x 1 1"},
		{"for v by k", "arithmetic=v 0 nil k 0"},
		{"for v from 1 to 5 by 2", "arithmetic=v 1 5 2 0"},
		{"for v by 2 below 5 from 1", "arithmetic=v 1 5 2 1"},
		{"for v upfrom 1 upto 5", "arithmetic=v 1 5 1 0"},
		{"for v from 9 downto 1", "arithmetic=v 9 1 1 2"},
		{"for v above 1 from 9 by (k)", "arithmetic=v 9 1 (k) 3"},
		{"for v downfrom 9 to 1", "arithmetic=v 9 1 1 2"},
		{"for v downfrom 9 downto 1", "arithmetic=v 9 1 1 2"},
		{"for v downfrom 9 above 1", "arithmetic=v 9 1 1 3"},
		{"for v below nil", "arithmetic=v 0 nil 1 1"},
		{"for v from from to to", "arithmetic=v from to 1 0"},
		{"repeat x", "repeat x"},
		{"while x", "while x"},
		{"until (x)", "until (x)"},
		{"always x", "always x"},
		{"never x", "never x"},
		{"thereis x", "thereis x"},
		{"return x", "return x"},
		{"do (a) (b)", "do (a) (b)"},
		{"doing (a)", "do (a)"},
		{"collect x", "collect=nil x"},
		{"collecting x into v", "collect=v x"},
		{"append x", "append=nil x"},
		{"appending x", "append=nil x"},
		{"sum x into v", "sum=v x"},
		{"suming x", "sum=nil x"},
		{"summing x", "sum=nil x"},
		{"count x", "count=nil x"},
		{"counting x", "count=nil x"},
		{"maximize x", "maximize=nil x"},
		{"maximizing x into v", "maximize=v x"},
		{"minimize x", "minimize=nil x"},
		{"minimizing x", "minimize=nil x"},
		{"collect into into into", "collect=into into"},
		{"if x do (a)", "if x [do (a)]"},
		{"when x return y", "if x [return y]"},
		{"unless x collect y", "unless x [collect=nil y]"},
		{"if x do (a) and sum y else do (b) and return 5 end", "if x [do (a); sum=nil y] else [do (b); return 5]"},
		{"if x do (a) end do (b)", "if x [do (a)]; do (b)"},
		{"if x if y do (a) else do (b) do (c)", "if x [if y [do (a)] else [do (b)]]; do (c)"},
		{"if x if y do (a) end else do (b)", "if x [if y [do (a)]] else [do (b)]"},
		{"if x if y do (a) and do (b) end and do (c) else do (d) end", "if x [if y [do (a); do (b)]; do (c)] else [do (d)]"},
		{"if and do (a) and unless else sum end end end", "if and [do (a); unless else [sum=nil end]]"},
		{"do (a) named b with c finally (d) for v in x", "do (a); named=b; with=c nil; finally (d); in=v x"},
		{"collect 1 sum 2", "collect=nil 1; sum=nil 2"},
	}
}

func TestParse(t *testing.T) {
	for _, c := range clauses() {
		l, e := loop.Parse(read(t, "(loop "+c[0]+")"))
		if e != api.OK || describe(l) != c[1] {
			t.Errorf("Parse(%s) = %s, %v; want %s", c[0], describe(l), e, c[1])
		}
	}
}

// P24.2: words count by their Text alone.
func TestWords(t *testing.T) {
	for _, c := range clauses() {
		f := read(t, "(loop "+c[0]+")")
		for i, k := range f.Kids[1 : len(f.Kids)-1] {
			if k.Kind == api.FormSymbol && !strings.Contains("AVXYBK", k.Text) && k.Text != "NIL" {
				f.Kids[i+1].Home = "P"
			}
		}
		l, e := loop.Parse(f)
		got := strings.ReplaceAll(describe(l), "p::", "")
		if e != api.OK || got != c[1] {
			t.Errorf("Parse(%s) = %s, %v; want %s", text(f), got, e, c[1])
		}
	}
}

func TestParseErrors(t *testing.T) {
	for _, s := range []string{
		"", "(a)", "(a) (b)", "(a) do (b)", "5", "nil", "a", "foo 1", "named", "named 5", "named (a)", "with", "with 5", "with nil", "with :a = 1", "with a =", "with a = 1 and b = 2", "with a 5",
		"initially", "initially a", "finally", "finally 5", "do", "do a", "do nil", "doing", "for", "for v", "for v foo", "for v 5", "for 5 in x", "for nil in x", "for (v) in x", "for v in", "for v in x by", "for v on", "for v on x by",
		"for v across", "for v across x by y", "for v =", "for v = x then", "for v in x then y", "for v from", "for v from 1 from 2", "for v from 1 upfrom 2", "for v to 1 below 2", "for v by 1 by 2", "for v from 1 to",
		"for v downto 1", "for v above 1", "for v upfrom 9 downto 1", "for v upfrom 9 above 1", "for v downfrom 9 upto 1", "for v downfrom 9 below 1", "for v from 9 upto 1 downto 1", "for v downto 1 by 2",
		"repeat", "while", "until", "always", "never", "thereis", "return", "collect", "collect 1 into", "collect 1 into 5", "sum 1 into nil", "count 1 into (v)", "maximize 1 into :v", "append", "minimize", "minimising x", "counting",
		"if", "if x", "if x y", "if x do", "if x with a", "if x while y", "if x repeat 1", "if x named a", "if x do (a) and", "if x do (a) and else do (b)", "if x do (a) else", "if x do (a) else end", "if x else do (a)", "if x end",
		"if x do (a) else while y", "if x do (a) end end", "when", "unless x", "unless x for v in y", "do (a) end", "do (a) else do (b)", "collect x and collect y", "do (a) 5", "while x y",
	} {
		if l, e := loop.Parse(read(t, "(loop "+s+")")); e != api.ErrForm || l != nil {
			t.Errorf("Parse(%s) = %s, %v", s, describe(l), e)
		}
	}
	for _, s := range []string{"loop", "(p::loop do (a))", "(loop do (a) . b)", "(list do (a))"} {
		if _, e := loop.Parse(read(t, s)); e != api.ErrForm {
			t.Errorf("Parse(%s): %v", s, e)
		}
	}
	if _, e := loop.Parse(api.Form{Kind: api.FormRef, Text: "1"}); e != forms.ErrLabel {
		t.Errorf("Parse of no form: %v", e)
	}
}

// Long forms, and such in which clauses stand deep in one another.
func TestParseLong(t *testing.T) {
	word := func(s string) api.Form { return forms.Symbol("P", s) }
	long := func(repeated []api.Form, behind ...api.Form) api.Form {
		return forms.Call("LOOP", slices.Concat(slices.Repeat(repeated, 900), behind))
	}
	l, e := loop.Parse(long([]api.Form{word("IF"), word("X")}, word("DO"), read(t, "(a)")))
	depth := 0
	for len(l) == 1 && l[0].Kind == loop.If {
		l = l[0].Then
		depth++
	}
	if e != api.OK || depth != 900 {
		t.Errorf("%d, %v", depth, e)
	}
	if l, e := loop.Parse(long([]api.Form{word("SUM"), word("X")})); e != api.OK || len(l) != 900 {
		t.Errorf("%d clauses, %v", len(l), e)
	}
}

// Clauses share no memory with the form, nor with one another.
func TestParseMemory(t *testing.T) {
	f := read(t, "(loop initially (a (b)) (c) for v in (d) by (e) if (f) do (g (h)) (i) and collect (j) else do (k))")
	l, _ := loop.Parse(f)
	want := describe(l)
	spoil(f)
	if got := describe(l); got != want {
		t.Errorf("with the form the clauses become %s", got)
	}
	for _, c := range l {
		_ = append(c.Forms, api.Form{})
		_ = append(c.Then, loop.Clause{})
	}
	if got := describe(l); got != want {
		t.Errorf("with more forms the clauses become %s", got)
	}
}
