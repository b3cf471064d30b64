package loop_test

import (
	"strings"
	"testing"

	"commonform/api"
	"commonform/loop"
)

func TestCheckParsed(t *testing.T) {
	for want, l := range map[api.Errno][]string{
		api.OK: {"named a with b for v in x repeat 3 initially (a) with c as u = 1 do (b) finally (c) initially (d) repeat 5 while x", "collect 1 append 2", "sum 1 count 2", "maximize 1 minimize 2",
			"collect 1 sum 2 into a", "sum 1 into a count 2 into a", "collect 1 into a sum 1 into p::a", "collect 1 into a always 2", "always 1 never 2 thereis 3", "repeat 1 for v in x", "for v below 5 for u to nil", "named nil"},
		api.ErrForm:  {"for v below nil", "for v from 5 above nil"},
		api.ErrOrder: {"with a named b", "named a named b", "do (a) with b", "while x for v in y", "collect 1 for v = 2", "if x do (a) for v to 5", "return 1 for v on y", "always x for v across y", "do (a) repeat 3 with b", "do (a) named b"},
		loop.ErrKind: {"collect 1 sum 2", "append 1 count 2", "sum 1 maximize 2", "minimize 1 collect 2", "collect 1 if x sum 2", "if x collect 1 else sum 2", "collect 1 always 2", "thereis 1 sum 2", "if x if y count 1 end end never 2", "sum 1 into a collect 2 into a", "if x sum 1 into a end maximize 1 into a"},
		api.ErrSize:  {strings.Repeat("do (a) ", 201), "if x " + strings.Repeat("do (a) and ", 199) + "do (b)", strings.Repeat("if x ", 200) + "do (a)"},
	} {
		for _, s := range l {
			clauses, e := loop.Parse(read(t, "(loop "+s+")"))
			if e != api.OK {
				t.Fatalf("Parse(%s): %v", s, e)
			}
			if e := loop.Check(clauses); e != want {
				t.Errorf("Check(%s): %v; want %v", s, e, want)
			}
		}
	}
	for _, s := range []string{strings.Repeat("do (a) ", 200), "if x " + strings.Repeat("do (a) and ", 198) + "do (b)", strings.Repeat("if x ", 199) + "do (a)"} {
		clauses, _ := loop.Parse(read(t, "(loop "+s+")"))
		if e := loop.Check(clauses); e != api.OK {
			t.Errorf("Check of 200 clauses: %v", e)
		}
	}
}

// Clauses that somebody made by hand.
func TestCheck(t *testing.T) {
	x, v, list, null, none := read(t, "5"), read(t, "v"), read(t, "(a)"), read(t, "nil"), api.Form{}
	forms := func(l ...api.Form) []api.Form { return l }
	number := func(s string) api.Form { return api.Form{Kind: api.FormInt, Text: s} }
	do := loop.Clause{Kind: loop.Do, Forms: forms(list)}
	wrong := api.Form{Kind: api.FormRef, Text: "1"}
	for _, c := range []struct {
		what   string
		clause loop.Clause
		e      api.Errno
	}{
		{"no kind", loop.Clause{}, api.ErrForm},
		{"a kind below", loop.Clause{Kind: -1, Forms: forms(x)}, api.ErrForm},
		{"a kind above", loop.Clause{Kind: loop.Return + 1, Forms: forms(x)}, api.ErrForm},
		{"named", loop.Clause{Kind: loop.Named, Var: null}, api.OK},
		{"named without a name", loop.Clause{Kind: loop.Named}, api.ErrForm},
		{"named by a list", loop.Clause{Kind: loop.Named, Var: list}, api.ErrForm},
		{"named with a form", loop.Clause{Kind: loop.Named, Var: v, Forms: forms(x)}, api.ErrForm},
		{"with", loop.Clause{Kind: loop.With, Var: v, Forms: forms(x)}, api.OK},
		{"with without a form", loop.Clause{Kind: loop.With, Var: v}, api.ErrForm},
		{"with two forms", loop.Clause{Kind: loop.With, Var: v, Forms: forms(x, x)}, api.ErrForm},
		{"with a constant", loop.Clause{Kind: loop.With, Var: null, Forms: forms(x)}, api.ErrForm},
		{"with a wrong variable", loop.Clause{Kind: loop.With, Var: api.Form{Kind: api.FormSymbol, Text: "V", Kids: forms(x)}, Forms: forms(x)}, api.ErrForm},
		{"initially", loop.Clause{Kind: loop.Initially, Forms: forms(list, list)}, api.OK},
		{"initially nothing", loop.Clause{Kind: loop.Initially}, api.ErrForm},
		{"initially an atom", loop.Clause{Kind: loop.Initially, Forms: forms(list, x)}, api.ErrForm},
		{"finally", loop.Clause{Kind: loop.Finally, Forms: forms(list)}, api.OK},
		{"finally with a variable", loop.Clause{Kind: loop.Finally, Var: v, Forms: forms(list)}, api.ErrForm},
		{"numbers", loop.Clause{Kind: loop.Arithmetic, Var: v, Forms: forms(x, null, x, number("2"))}, api.OK},
		{"numbers below", loop.Clause{Kind: loop.Arithmetic, Var: v, Forms: forms(x, x, x, number("3"))}, api.OK},
		{"numbers below nothing", loop.Clause{Kind: loop.Arithmetic, Var: v, Forms: forms(x, null, x, number("3"))}, api.ErrForm},
		{"numbers in another way", loop.Clause{Kind: loop.Arithmetic, Var: v, Forms: forms(x, x, x, number("4"))}, api.ErrForm},
		{"numbers in a way below", loop.Clause{Kind: loop.Arithmetic, Var: v, Forms: forms(x, x, x, number("-1"))}, api.ErrForm},
		{"numbers in the way of a text", loop.Clause{Kind: loop.Arithmetic, Var: v, Forms: forms(x, x, x, api.Form{Kind: api.FormString, Text: "1"})}, api.ErrForm},
		{"numbers with three forms", loop.Clause{Kind: loop.Arithmetic, Var: v, Forms: forms(x, x, x)}, api.ErrForm},
		{"numbers with five forms", loop.Clause{Kind: loop.Arithmetic, Var: v, Forms: forms(x, x, x, number("0"), x)}, api.ErrForm},
		{"in", loop.Clause{Kind: loop.In, Var: v, Forms: forms(x, x)}, api.OK},
		{"in nothing", loop.Clause{Kind: loop.In, Var: v}, api.ErrForm},
		{"in three forms", loop.Clause{Kind: loop.In, Var: v, Forms: forms(x, x, x)}, api.ErrForm},
		{"on without a variable", loop.Clause{Kind: loop.On, Forms: forms(x)}, api.ErrForm},
		{"across", loop.Clause{Kind: loop.Across, Var: v, Forms: forms(x)}, api.OK},
		{"across two forms", loop.Clause{Kind: loop.Across, Var: v, Forms: forms(x, x)}, api.ErrForm},
		{"equals", loop.Clause{Kind: loop.Equals, Var: v, Forms: forms(x, x)}, api.OK},
		{"repeat", loop.Clause{Kind: loop.Repeat, Forms: forms(x)}, api.OK},
		{"repeat with NIL for a variable", loop.Clause{Kind: loop.Repeat, Var: null, Forms: forms(x)}, api.ErrForm},
		{"while nothing", loop.Clause{Kind: loop.While}, api.ErrForm},
		{"until", loop.Clause{Kind: loop.Until, Forms: forms(x)}, api.OK},
		{"always two forms", loop.Clause{Kind: loop.Always, Forms: forms(x, x)}, api.ErrForm},
		{"never with a home for a variable", loop.Clause{Kind: loop.Never, Var: api.Form{Home: "P"}, Forms: forms(x)}, api.ErrForm},
		{"thereis no form", loop.Clause{Kind: loop.Thereis, Forms: forms(none)}, api.ErrForm},
		{"do", do, api.OK},
		{"do an atom", loop.Clause{Kind: loop.Do, Forms: forms(x)}, api.ErrForm},
		{"do with clauses", loop.Clause{Kind: loop.Do, Forms: forms(list), Then: []loop.Clause{do}}, api.ErrForm},
		{"do with others", loop.Clause{Kind: loop.Do, Forms: forms(list), Else: []loop.Clause{do}}, api.ErrForm},
		{"collect", loop.Clause{Kind: loop.Collect, Var: null, Forms: forms(x)}, api.OK},
		{"collect into", loop.Clause{Kind: loop.Collect, Var: v, Forms: forms(x)}, api.OK},
		{"collect without a variable", loop.Clause{Kind: loop.Collect, Forms: forms(x)}, api.ErrForm},
		{"collect into a constant", loop.Clause{Kind: loop.Collect, Var: read(t, "t"), Forms: forms(x)}, api.ErrForm},
		{"minimize nothing", loop.Clause{Kind: loop.Minimize, Var: null}, api.ErrForm},
		{"if", loop.Clause{Kind: loop.If, Forms: forms(x), Then: []loop.Clause{do, do}, Else: []loop.Clause{do}}, api.OK},
		{"if without clauses", loop.Clause{Kind: loop.If, Forms: forms(x)}, api.ErrForm},
		{"if with others alone", loop.Clause{Kind: loop.If, Forms: forms(x), Else: []loop.Clause{do}}, api.ErrForm},
		{"if with a variable", loop.Clause{Kind: loop.If, Var: v, Forms: forms(x), Then: []loop.Clause{do}}, api.ErrForm},
		{"unless around what is not selectable", loop.Clause{Kind: loop.Unless, Forms: forms(x), Then: []loop.Clause{do, {Kind: loop.While, Forms: forms(x)}}}, api.ErrForm},
		{"unless around others that are not selectable", loop.Clause{Kind: loop.Unless, Forms: forms(x), Then: []loop.Clause{do}, Else: []loop.Clause{{Kind: loop.Named, Var: v}}}, api.ErrForm},
		{"unless around what is wrong", loop.Clause{Kind: loop.Unless, Forms: forms(x), Then: []loop.Clause{do}, Else: []loop.Clause{{Kind: loop.Do}}}, api.ErrForm},
		{"return", loop.Clause{Kind: loop.Return, Forms: forms(x)}, api.OK},
		{"return what is no form", loop.Clause{Kind: loop.Return, Forms: forms(wrong)}, api.ErrForm},
	} {
		l := []loop.Clause{c.clause}
		if e := loop.Check(l); e != c.e {
			t.Errorf("%s: %v; want %v", c.what, e, c.e)
		}
		if f, next, e := loop.Expand(l, 0); e != c.e || e != api.OK && (next != 0 || f.Kind != 0) {
			t.Errorf("Expand of %s: %s, %d, %v; want %v", c.what, text(f), next, e, c.e)
		}
	}
	if e := loop.Check(nil); e != api.OK {
		t.Errorf("no clauses: %v", e)
	}
}

// Of several errors the one that is named first counts, wherever it stands.
func TestCheckOrder(t *testing.T) {
	parse := func(s string) []loop.Clause {
		l, e := loop.Parse(read(t, "(loop "+s+")"))
		if e != api.OK {
			t.Fatal(e)
		}
		return l
	}
	kind, order, form := parse("collect 1 sum 2"), parse("do (a) named b"), []loop.Clause{{}}
	large := parse(strings.Repeat("do (a) ", 200))
	for _, c := range []struct {
		l []loop.Clause
		e api.Errno
	}{
		{append(kind, order...), api.ErrOrder},
		{append(order, form...), api.ErrForm},
		{append(form, kind...), api.ErrForm},
		{append(large, form...), api.ErrSize},
	} {
		if e := loop.Check(c.l); e != c.e {
			t.Errorf("Check: %v; want %v", e, c.e)
		}
		if _, _, e := loop.Expand(c.l, -1); e != c.e {
			t.Errorf("Expand from -1: %v; want %v", e, c.e)
		}
	}
	// Clauses that have themselves in them are too many.
	own := []loop.Clause{{Kind: loop.If}}
	own[0].Then = own
	if e := loop.Check(own); e != api.ErrSize {
		t.Errorf("clauses in themselves: %v", e)
	}
}
