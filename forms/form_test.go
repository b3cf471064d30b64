package forms_test

import (
	"slices"
	"strings"
	"testing"

	"commonform/api"
	"commonform/forms"
)

func TestConstants(t *testing.T) {
	if forms.MaxRank != 7 || forms.ErrLabel != 30 || forms.ErrCircle != 31 {
		t.Error("the constants")
	}
}

func TestSize(t *testing.T) {
	for _, c := range []struct {
		text         string
		nodes, depth int
	}{{"a", 1, 1}, {"()", 1, 1}, {"(a)", 3, 2}, {"(a (b))", 6, 3}, {"#()", 1, 1}, {"#(#(#(1)))", 4, 4}, {"#1=(a . #1#)", 4, 3}, {"#C(1 2)", 3, 2}, {"(#(1 2 3) #(1))", 8, 3}} {
		if n, d := forms.Size(read(t, c.text)); n != c.nodes || d != c.depth {
			t.Errorf("Size of %s: %d, %d", c.text, n, d)
		}
	}
	// any tree has a size, a wrong one too
	wrong := api.Form{Kind: 99, Kids: []api.Form{{}, {Kids: []api.Form{{}, {}}}}}
	if n, d := forms.Size(wrong); n != 5 || d != 3 {
		t.Errorf("Size of a wrong tree: %d, %d", n, d)
	}
	deep := api.Form{}
	for range 5000 {
		deep = api.Form{Kids: []api.Form{deep}}
	}
	if n, d := forms.Size(deep); n != 5001 || d != 5001 {
		t.Errorf("Size of a deep tree: %d, %d", n, d)
	}
	randomForms(t, 100, func(f api.Form) {
		n, d := forms.Size(f)
		sum, deepest := 1, 1
		for _, k := range f.Kids {
			m, e := forms.Size(k)
			sum += m
			deepest = max(deepest, e+1)
		}
		if n != sum || d != deepest {
			t.Errorf("Size of %v: %d, %d", f, n, d)
		}
	})
}

func TestSymbols(t *testing.T) {
	s := forms.Symbol("P", "A")
	if !equal(s, api.Form{Kind: api.FormSymbol, Text: "A", Home: "P"}) || !equal(forms.Symbol("", ""), api.Form{Kind: api.FormSymbol}) {
		t.Errorf("Symbol: %v", s)
	}
	if !equal(forms.Nil(), api.Form{Kind: api.FormSymbol, Text: "NIL", Home: "COMMON-LISP"}) {
		t.Errorf("Nil: %v", forms.Nil())
	}
	one := []api.Form{node(api.FormInt, "1")}
	for _, c := range []struct {
		f    api.Form
		null bool
	}{
		{forms.Nil(), true}, {api.Form{Kind: api.FormSymbol, Text: "NIL", Home: "COMMON-LISP", Kids: one}, true}, {forms.Symbol("P", "NIL"), false}, {forms.Symbol("COMMON-LISP", "nil"), false}, {forms.Symbol("COMMON-LISP", "T"), false}, {forms.Symbol("", "NIL"), false}, {api.Form{Kind: api.FormString, Text: "NIL", Home: "COMMON-LISP"}, false}, {api.Form{}, false},
	} {
		if forms.IsNil(c.f) != c.null || forms.Is(c.f, "COMMON-LISP", "NIL") != c.null {
			t.Errorf("IsNil of %v: %v", c.f, !c.null)
		}
	}
	if !forms.Is(s, "P", "A") || forms.Is(s, "P", "B") || forms.Is(s, "Q", "A") || forms.Is(s, "A", "P") || forms.Is(api.Form{Kind: api.FormInt, Text: "A", Home: "P"}, "P", "A") || !forms.Is(api.Form{Kind: api.FormSymbol, Text: "A", Home: "P", Kids: one}, "P", "A") {
		t.Error("Is")
	}
}

func TestNumber(t *testing.T) {
	numbers := []int{api.FormInt, api.FormRatio, api.FormSingle, api.FormDouble, api.FormComplex}
	for kind := -2; kind <= 20; kind++ {
		if forms.Number(api.Form{Kind: kind, Text: "x"}) != slices.Contains(numbers, kind) {
			t.Errorf("Number of the kind %d", kind)
		}
	}
}

func TestEqual(t *testing.T) {
	a := api.Form{Kind: api.FormSymbol, Text: "A", Home: "P"}
	list := node(api.FormCons, "", a, a)
	for _, c := range []struct {
		a, b api.Form
		want bool
	}{
		{a, a, true}, {list, list, true}, {a, api.Form{Kind: api.FormString, Text: "A", Home: "P"}, false}, {a, api.Form{Kind: api.FormSymbol, Text: "B", Home: "P"}, false}, {a, api.Form{Kind: api.FormSymbol, Text: "A"}, false}, {list, node(api.FormCons, "", a), false}, {node(api.FormCons, "", a), list, false}, {list, node(api.FormCons, "", a, list), false}, {list, node(api.FormVector, "", a, a), false}, {api.Form{}, api.Form{Kids: []api.Form{}}, true}, {api.Form{}, api.Form{Kids: []api.Form{{}}}, false}, {api.Form{Kind: -7}, api.Form{Kind: -7}, true}, {read(t, "(a b)"), read(t, "(b a)"), false}, {read(t, "#1=(a)"), read(t, "#2=(a)"), false},
	} {
		if forms.Equal(c.a, c.b) != c.want {
			t.Errorf("Equal of %v and %v: %v", c.a, c.b, !c.want)
		}
	}
	randomForms(t, 60, func(f api.Form) {
		for seed := range int64(20) {
			g := randomForm(seed, 5+int(seed)%40, seed%3 > 0)
			if forms.Equal(f, g) != equal(f, g) {
				t.Errorf("Equal of %v and %v", f, g)
			}
		}
		if n, d := forms.Size(relabel(f, map[string]string{})); !forms.Equal(f, f) || n == 0 || d == 0 {
			t.Errorf("Equal of %v and itself", f)
		}
	})
}

func TestListsAndTails(t *testing.T) {
	a, b, c, null := symbol("A"), symbol("B"), symbol("C"), symbol("NIL")
	for _, x := range []struct {
		what      string
		got, want api.Form
	}{
		{"List of none", forms.List(nil), null},
		{"List of an empty list", forms.List([]api.Form{}), null},
		{"List", forms.List([]api.Form{a, b}), node(api.FormCons, "", a, b, null)},
		{"List of lists", forms.List([]api.Form{forms.List([]api.Form{a})}), node(api.FormCons, "", node(api.FormCons, "", a, null), null)},
		{"Dotted", forms.Dotted([]api.Form{a}, b), node(api.FormCons, "", a, b)},
		{"Dotted with a list", forms.Dotted([]api.Form{a}, forms.List([]api.Form{b, c})), node(api.FormCons, "", a, b, c, null)},
		{"Dotted with a dotted list", forms.Dotted([]api.Form{a}, forms.Dotted([]api.Form{b}, c)), node(api.FormCons, "", a, b, c)},
		{"Dotted of none", forms.Dotted(nil, b), b},
		{"Dotted of none and a list", forms.Dotted(nil, forms.List([]api.Form{a})), node(api.FormCons, "", a, null)},
		{"Dotted with a label", forms.Dotted([]api.Form{a}, read(t, "#1=(b)")), node(api.FormCons, "", a, read(t, "#1=(b)"))},
		{"Dotted with a cons without kids", forms.Dotted([]api.Form{a}, node(api.FormCons, "")), node(api.FormCons, "", a)},
		{"Dotted with NIL", forms.Dotted([]api.Form{a}, null), node(api.FormCons, "", a, null)},
		{"Call", forms.Call("CAR", []api.Form{a, b}), node(api.FormCons, "", forms.Symbol("COMMON-LISP", "CAR"), a, b, null)},
		{"Call without arguments", forms.Call("LIST", nil), node(api.FormCons, "", forms.Symbol("COMMON-LISP", "LIST"), null)},
	} {
		if !equal(x.got, x.want) {
			t.Errorf("%s = %v; expected %v", x.what, x.got, x.want)
		}
	}
}

func TestItemsAndSpread(t *testing.T) {
	a, b, null := symbol("A"), symbol("B"), symbol("NIL")
	wrong := api.Form{Kind: api.FormVector, Kids: []api.Form{a, null}}
	for _, x := range []struct {
		f      api.Form
		l      []api.Form
		tail   api.Form
		proper bool
	}{
		{null, nil, null, true}, {read(t, "(a b)"), []api.Form{a, b}, null, true}, {read(t, "(a . b)"), []api.Form{a}, b, false}, {a, nil, a, false}, {wrong, nil, wrong, false}, {node(api.FormCons, ""), nil, node(api.FormCons, ""), false}, {node(api.FormCons, "", null), nil, node(api.FormCons, "", null), false}, {node(api.FormCons, "", a, read(t, "(b)")), []api.Form{a}, read(t, "(b)"), false}, {read(t, "(a . #1=(b))"), []api.Form{a}, read(t, "#1=(b)"), false}, {forms.Symbol("P", "NIL"), nil, forms.Symbol("P", "NIL"), false}, {read(t, "#1=(a)"), nil, read(t, "#1=(a)"), false},
	} {
		l, tail := forms.Spread(x.f)
		if !equalAll(l, x.l) || !equal(tail, x.tail) {
			t.Errorf("Spread of %v = %v, %v", x.f, l, tail)
		}
		want := x.l
		if !x.proper {
			want = nil
		}
		if l, ok := forms.Items(x.f); ok != x.proper || !equalAll(l, want) {
			t.Errorf("Items of %v = %v, %v", x.f, l, ok)
		}
	}
	randomForms(t, 100, func(f api.Form) {
		l := f.Kids
		if items, ok := forms.Items(forms.List(l)); !ok || !equalAll(items, l) {
			t.Errorf("Items of List of %v", l)
		}
		if f.Kind == api.FormCons || len(l) == 0 {
			return
		}
		m, tail := forms.Spread(forms.Dotted(l, f))
		if !equalAll(m, l) || !equal(tail, f) {
			t.Errorf("Spread of Dotted of %v", l)
		}
		one := forms.Dotted(l, forms.Dotted(l, f))
		if !equal(one, forms.Dotted(append(slices.Clone(l), l...), f)) {
			t.Errorf("Dotted of Dotted of %v", l)
		}
	})
}

// Results share no memory with arguments, and nothing is written behind the end of a list.
func TestMemoryOfLists(t *testing.T) {
	room := []api.Form{read(t, "(a (b))"), read(t, "#(c)"), symbol("X"), symbol("Y"), symbol("Z")}
	tail := read(t, "(d (e))")
	before, tailBefore := snapshot(room), snapshot(tail)
	l := room[:2]
	list := forms.List(l)
	elements, rest := forms.Spread(list)
	items, _ := forms.Items(list)
	results := []api.Form{list, forms.Dotted(l, tail), forms.Dotted(l, symbol("T")), forms.Dotted(nil, tail), forms.Call("F", l), rest}
	none, whole := forms.Spread(tail.Kids[1])
	results = append(append(append(results, elements...), items...), append(none, whole)...)
	_, whole = forms.Spread(room[1])
	results = append(results, whole)
	if snapshot(room) != before || snapshot(tail) != tailBefore {
		t.Fatal("an argument was changed")
	}
	for _, f := range results {
		spoil(f)
	}
	if snapshot(room) != before || snapshot(tail) != tailBefore {
		t.Error("a result shares memory with an argument")
	}
}

func TestDimensions(t *testing.T) {
	for _, c := range []struct {
		f    api.Form
		want []int
		e    api.Errno
	}{
		{read(t, "#()"), []int{0}, api.OK}, {read(t, "#(1 2 3)"), []int{3}, api.OK}, {node(api.FormString, "aé\U0001F600"), []int{3}, api.OK}, {node(api.FormString, ""), []int{0}, api.OK}, {node(api.FormBits, "0110"), []int{4}, api.OK}, {node(api.FormArray, "", symbol("A")), nil, api.OK}, {read(t, "#A[2 1](1 2)"), []int{2, 1}, api.OK}, {node(api.FormArray, "0 2000 5"), []int{0, 2000, 5}, api.OK}, {node(api.FormArray, "1 1 1 1 1 1 1", symbol("A")), []int{1, 1, 1, 1, 1, 1, 1}, api.OK},
		{symbol("A"), nil, api.ErrArg}, {read(t, "(a)"), nil, api.ErrArg}, {read(t, "#1=#(1)"), nil, api.ErrArg}, {node(api.FormRef, "1"), nil, api.ErrArg}, {api.Form{}, nil, api.ErrArg}, {api.Form{Kind: 99}, nil, api.ErrArg}, {node(api.FormInt, "01"), nil, api.ErrArg},
		{node(api.FormArray, "2", symbol("A"), symbol("A")), nil, api.ErrForm}, {node(api.FormArray, "2 2", symbol("A")), nil, api.ErrForm}, {node(api.FormVector, "x"), nil, api.ErrForm}, {node(api.FormVector, "", node(api.FormInt, "01")), nil, api.ErrForm}, {node(api.FormBits, "012"), nil, api.ErrForm}, {node(api.FormString, "\xff"), nil, api.ErrForm}, {node(api.FormVector, "", node(api.FormRef, "1")), nil, forms.ErrLabel}, {read(t, "#(#1=(a) #1=(b))"), nil, api.ErrTwice}, {node(api.FormVector, "", make([]api.Form, 2000)...), nil, api.ErrSize},
	} {
		if d, e := forms.Dimensions(c.f); !slices.Equal(d, c.want) || e != c.e {
			t.Errorf("Dimensions of %.80v: %v, %v", c.f, d, e)
		}
	}
	f := node(api.FormString, strings.Repeat("é", 5000))
	if d, e := forms.Dimensions(f); !slices.Equal(d, []int{5000}) || e != api.OK {
		t.Errorf("Dimensions of a long string: %v, %v", d, e)
	}
}
