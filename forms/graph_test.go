package forms_test

import (
	"math/rand"
	"slices"
	"strconv"
	"testing"

	"commonform/api"
	"commonform/forms"
)

// Shorthands for nodes of graphs.
func cons(car, cdr int) forms.Node { return forms.Node{Kind: api.FormCons, Kids: []int{car, cdr}} }

func vector(kids ...int) forms.Node { return forms.Node{Kind: api.FormVector, Kids: kids} }

func array(text string, kids ...int) forms.Node {
	return forms.Node{Kind: api.FormArray, Text: text, Kids: kids}
}

func text(s string) forms.Node { return forms.Node{Kind: api.FormString, Text: s} }

func integer(s string) forms.Node { return forms.Node{Kind: api.FormInt, Text: s} }

func name(s string) forms.Node { return forms.Node{Kind: api.FormSymbol, Text: s, Home: "P"} }

func complexOf(re, im int) forms.Node {
	return forms.Node{Kind: api.FormComplex, Kids: []int{re, im}}
}

var null = forms.Node{Kind: api.FormSymbol, Text: "NIL", Home: "COMMON-LISP"}

type graph = []forms.Node

func TestNodes(t *testing.T) {
	for s, want := range map[string]graph{
		"a": {name("A")}, "5": {integer("5")}, "\"x\"": {text("x")}, "#C(1 2)": {complexOf(1, 2), integer("1"), integer("2")},
		"#0=(a . #0#)":            {cons(1, 0), name("A")},
		"(\"x\" \"x\" . 1)":       {cons(1, 2), text("x"), cons(3, 4), text("x"), integer("1")},
		"(#3=\"x\" #3# . 1)":      {cons(1, 2), text("x"), cons(1, 3), integer("1")},
		"(#1=5 #1# . #1#)":        {cons(1, 2), integer("5"), cons(3, 4), integer("5"), integer("5")},
		"(#1=\\x . #1#)":          {cons(1, 2), {Kind: api.FormChar, Text: "x"}, {Kind: api.FormChar, Text: "x"}},
		"(#1=#C(1 2) . #1#)":      {cons(1, 4), complexOf(2, 3), integer("1"), integer("2"), complexOf(5, 6), integer("1"), integer("2")},
		"(a a)":                   {cons(1, 2), name("A"), cons(1, 3), null},
		"(#1=a #1#)":              {cons(1, 2), name("A"), cons(1, 3), null},
		"(a (b c) . d)":           {cons(1, 2), name("A"), cons(3, 8), cons(4, 5), name("B"), cons(6, 7), name("C"), null, name("D")},
		"#(a #() #(b) #A[0 2]())": {vector(1, 2, 3, 5), name("A"), vector(), vector(4), name("B"), array("0 2")},
		"#A[]( a)":                {array("", 1), name("A")},
		"(a . #1=(b . #1#))":      {cons(1, 2), name("A"), cons(3, 2), name("B")},
		"#1=#(#1# #2=(#1#) #2#)":  {vector(0, 1, 1), cons(0, 2), null},
		"#9=(a . #3=(b . #9#))":   {cons(1, 2), name("A"), cons(3, 0), name("B")},
		"(#*01 #s3f800000)":       {cons(1, 2), {Kind: api.FormBits, Text: "01"}, cons(3, 4), {Kind: api.FormSingle, Text: "3f800000"}, null},
	} {
		got, e := forms.Nodes(read(t, s))
		if e != api.OK || !equalGraphs(got, want) {
			t.Errorf("Nodes of %s = %v, %v; expected %v", s, got, e, want)
		}
		if e := forms.CheckGraph(want); e != api.OK {
			t.Errorf("CheckGraph of %s: %v", s, e)
		}
	}
	for what, c := range wrongForms(t) {
		if got, e := forms.Nodes(c.f); e != c.want || len(got) != 0 {
			t.Errorf("Nodes of a wrong form, %s: %v, %v", what, got, e)
		}
	}
}

func TestNodesLimits(t *testing.T) {
	for n, want := range map[int]api.Errno{999: api.OK, 1000: api.ErrSize} {
		// Each cons has an integer of its own.
		f := forms.Dotted(fill(n, node(api.FormInt, "1")), node(api.FormInt, "2"))
		if g, e := forms.Nodes(f); e != want || e == api.OK && len(g) != 2*n+1 || e != api.OK && len(g) != 0 {
			t.Errorf("Nodes of %d conses: %d, %v", n, len(g), e)
		}
	}
	if g, e := forms.Nodes(node(api.FormVector, "", fill(1999, node(api.FormInt, "1"))...)); e != api.OK || len(g) != 2000 {
		t.Errorf("Nodes of a vector of integers: %d, %v", len(g), e)
	}
	if g, e := forms.Nodes(forms.List(fill(1997, symbol("A")))); e != api.OK || len(g) != 1999 {
		t.Errorf("Nodes of a list of symbols: %d, %v", len(g), e)
	}
}

func TestCheckGraph(t *testing.T) {
	// A list of n - 2 symbols A.
	long := func(n int) graph {
		g := graph{cons(1, 2), name("A")}
		for i := 2; i < n-1; i++ {
			g = append(g, cons(1, i+1))
		}
		return append(g, null)
	}
	right := []graph{{name("A")}, {vector()}, {vector(0)}, {vector(0, 0, 0)}, {cons(0, 0)}, {cons(1, 1), name("A")}, {cons(1, 1), text("x")}, {complexOf(1, 2), integer("0"), integer("1")}, {vector(1, 1, 0), vector(0)}, {vector(fill2(5000, 1)...), name("A")}, {array("2000 2", fill2(4000, 0)...)}, long(2000), {cons(1, 2), text("x"), text("x")}, {forms.Node{Kind: api.FormSymbol}}, {cons(1, 2), name("A"), {Kind: api.FormSymbol, Text: "A", Home: "Q"}}}
	for _, g := range right {
		if e := forms.CheckGraph(g); e != api.OK {
			t.Errorf("CheckGraph of %.80v: %v", g, e)
		}
	}
	wrong := map[string]graph{
		"no nodes": nil, "an empty list": {}, "too many nodes": long(2001), "no kind": {{}}, "a kind below": {{Kind: -1}}, "a label": {{Kind: api.FormLabel, Text: "1", Kids: []int{0}}}, "a reference": {{Kind: api.FormRef, Text: "1"}}, "a kind above": {{Kind: 99}},
		"a wrong integer": {integer("01")}, "a wrong home": {{Kind: api.FormInt, Text: "1", Home: "P"}}, "a wrong text": {{Kind: api.FormVector, Text: "x"}}, "no UTF-8": {text("\xff")}, "a home that is no UTF-8": {{Kind: api.FormSymbol, Home: "\xff"}}, "a wrong ratio": {{Kind: api.FormRatio, Text: "2/4"}}, "a wrong character": {{Kind: api.FormChar, Text: "ab"}}, "wrong bits": {{Kind: api.FormBits, Text: "2"}}, "a wrong float": {{Kind: api.FormSingle, Text: "3F800000"}}, "a cons with a text": {{Kind: api.FormCons, Text: "x", Kids: []int{0, 0}}},
		"a cons with one part": {{Kind: api.FormCons, Kids: []int{0}}}, "a cons with three": {{Kind: api.FormCons, Kids: []int{0, 0, 0}}}, "a cons with none": {{Kind: api.FormCons}}, "a symbol with a part": {{Kind: api.FormSymbol, Text: "A", Kids: []int{0}}}, "a string with a part": {{Kind: api.FormString, Kids: []int{0}}}, "an array with too few": {array("2 2", 0, 0, 0)}, "an array with wrong dimensions": {array("2", 0, 0)}, "a complex number with three": {{Kind: api.FormComplex, Kids: []int{1, 2, 3}}, integer("1"), integer("1"), integer("1")},
		"an index below": {vector(-1)}, "an index above": {vector(1)}, "an index far above": {vector(1 << 40)}, "an index of a later cons": {cons(1, 2), name("A")},
		"a complex number with 0": {complexOf(1, 2), integer("1"), integer("0")}, "with a symbol": {complexOf(1, 2), integer("1"), name("A")}, "with floats of two kinds": {complexOf(1, 2), {Kind: api.FormSingle, Text: "3f800000"}, {Kind: api.FormDouble, Text: "3ff0000000000000"}}, "with one part twice": {complexOf(1, 1), integer("1")}, "with itself": {complexOf(0, 0)}, "a part of a complex number elsewhere": {vector(1, 2), complexOf(2, 3), integer("1"), integer("2")},
		"equal symbols": {cons(1, 2), name("A"), name("A")}, "equal symbols apart": {vector(1, 2, 3), name("A"), name("B"), name("A")},
		"a number with two places": {cons(1, 1), integer("5")}, "a character with two places": {cons(1, 1), {Kind: api.FormChar, Text: "x"}}, "a complex number with two places": {cons(1, 1), complexOf(2, 3), integer("1"), integer("2")}, "a float with two places": {vector(1, 1), {Kind: api.FormSingle, Text: "3f800000"}}, "a ratio with two places": {vector(1, 1), {Kind: api.FormRatio, Text: "1/2"}},
		"a node that is not met": {name("A"), name("B")}, "a circle that is not met": {vector(), vector(1)}, "another order": {cons(2, 1), name("A"), name("B")}, "the parts ahead of all that is met": {vector(1, 2), vector(3), vector(), name("A")}, "the first one behind": {vector(1, 2), vector(2), vector(), vector()},
	}
	for what, g := range wrong {
		before := snapshot(g)
		for call, e := range callAll(g, 0, 0) {
			if e != api.ErrForm {
				t.Errorf("%s of a graph with %s: %v", call, what, e)
			}
		}
		for call, e := range callAll(g, -1, 99) {
			if e != api.ErrForm {
				t.Errorf("%s of a graph with %s and wrong indices: %v", call, what, e)
			}
		}
		if snapshot(g) != before {
			t.Errorf("a graph with %s was changed", what)
		}
	}
}

func fill2(n, kid int) []int {
	l := make([]int, n)
	for i := range l {
		l[i] = kid
	}
	return l
}

// callAll returns the errors of all functions of graphs; a result that is no zero value with an error is told as OK.
func callAll(g graph, i, k int) map[string]api.Errno {
	errors := map[string]api.Errno{"CheckGraph": forms.CheckGraph(g)}
	add := func(call string, e api.Errno, isZero bool) {
		if e != api.OK && !isZero {
			e = api.OK
		}
		errors[call] = e
	}
	f, e := forms.Build(g)
	add("Build", e, equal(f, api.Form{}))
	p, e := forms.Part(g, i)
	add("Part", e, len(p) == 0)
	l, e := forms.Shared(g)
	add("Shared", e, len(l) == 0)
	is, e := forms.Circular(g, i)
	add("Circular", e, !is)
	l, last, e := forms.Cars(g, i)
	add("Cars", e, len(l) == 0 && last == 0)
	is, e = forms.Eql(g, i, k)
	add("Eql", e, !is)
	is, e = forms.Alike(g, i, k)
	add("Alike", e, !is)
	is, e = forms.Similar(g, i, k)
	add("Similar", e, !is)
	p, e = forms.Coalesce(g)
	add("Coalesce", e, len(p) == 0)
	return errors
}

func TestIndices(t *testing.T) {
	g := graph{cons(1, 2), name("A"), null}
	for _, c := range [][2]int{{-1, 0}, {3, 0}, {0, -1}, {0, 3}, {1 << 40, 1}, {-1 << 40, -1}, {3, 3}} {
		for call, e := range callAll(g, c[0], c[1]) {
			want := api.OK
			switch call {
			case "Part", "Circular", "Cars":
				if c[0] < 0 || c[0] > 2 {
					want = api.ErrArg
				}
			case "Eql", "Alike", "Similar":
				want = api.ErrArg
			}
			if e != want {
				t.Errorf("%s with %v: %v", call, c, e)
			}
		}
	}
}

func TestBuildAndNodes(t *testing.T) {
	randomForms(t, 600, func(f api.Form) {
		g, e := forms.Nodes(f)
		if e != api.OK || forms.CheckGraph(g) != api.OK {
			t.Fatalf("Nodes of %v: %v, %v", f, g, e)
		}
		normal, _ := forms.Normal(f)
		before := snapshot(g)
		built, e := forms.Build(g)
		if e != api.OK || !equal(built, normal) {
			t.Fatalf("Build of Nodes of %v = %v, %v", f, built, e)
		}
		shared, e := forms.Shared(g)
		if e != api.OK || len(shared) != count(built, api.FormLabel) {
			t.Fatalf("Shared of %v: %v, %v", f, shared, e)
		}
		spoil(built)
		if snapshot(g) != before {
			t.Fatalf("Build of %v shares memory, or changes the graph", f)
		}
		spoilGraph(g)
	})
	randomGraphs(t, 300, func(g graph) {
		f, e := forms.Build(g)
		if e == api.ErrSize {
			return
		}
		if e != api.OK || forms.Check(f) != api.OK {
			t.Fatalf("Build of %v: %v", g, e)
		}
		normal, e := forms.Normal(f)
		if e != api.OK || !equal(normal, f) {
			t.Fatalf("Build of %v is not its own Normal: %v", g, e)
		}
		back, e := forms.Nodes(f)
		if e != api.OK || !equalGraphs(back, g) {
			t.Fatalf("Nodes of Build of %v = %v, %v", g, back, e)
		}
	})
}

func TestBuildLimits(t *testing.T) {
	// A vector with so many strings, each of them twice.
	twice := func(n int) graph {
		g := graph{vector()}
		for i := range n {
			g = append(g, text("x"))
			g[0].Kids = append(g[0].Kids, i+1)
		}
		g[0].Kids = append(g[0].Kids, g[0].Kids...)
		return g
	}
	for n, want := range map[int]api.Errno{600: api.OK, 666: api.OK, 667: api.ErrSize, 1000: api.ErrSize, 1001: api.ErrSize} {
		if f, e := forms.Build(twice(n)); e != want || e != api.OK && !equal(f, api.Form{}) {
			t.Errorf("Build of %d labels: %v", n, e)
		}
	}
	for n, want := range map[int]api.Errno{1999: api.OK, 2000: api.ErrSize, 100000: api.ErrSize} {
		if _, e := forms.Build(graph{vector(fill2(n, 1)...), name("A")}); e != want {
			t.Errorf("Build of a vector of %d symbols: %v", n, e)
		}
	}
}

func TestBuildDepths(t *testing.T) {
	deep := func(n int) graph {
		var g graph
		for i := range n - 1 {
			g = append(g, vector(i+1))
		}
		return append(g, name("A"))
	}
	for n, want := range map[int]api.Errno{100: api.OK, 101: api.ErrSize, 2000: api.ErrSize} {
		if f, e := forms.Build(deep(n)); e != want || e != api.OK && !equal(f, api.Form{}) {
			t.Errorf("Build of the depth %d: %v", n, e)
		}
	}
	// A label adds to the depth: the last vector has the first one.
	circle := func(n int) graph {
		g := deep(n)
		g[n-1] = vector(0)
		return g
	}
	for n, want := range map[int]api.Errno{98: api.OK, 99: api.ErrSize} {
		if _, e := forms.Build(circle(n)); e != want {
			t.Errorf("Build of a circle of %d vectors: %v", n, e)
		}
	}
	// The depth of elements that are not the last ones counts likewise.
	ahead := func(n int) graph {
		g := deep(n)
		for i := range n - 1 {
			g[i].Kids = append(g[i].Kids, n-1)
		}
		return g
	}
	for n, want := range map[int]api.Errno{100: api.OK, 101: api.ErrSize} {
		if _, e := forms.Build(ahead(n)); e != want {
			t.Errorf("Build of the depth %d in first elements: %v", n, e)
		}
	}
	var list graph
	for i := range 1998 {
		list = append(list, cons(1, i+2))
		if i == 0 {
			list = append(list, name("A"))
		}
	}
	list = append(list, null)
	if f, e := forms.Build(list); e != api.OK || len(f.Kids) != 1999 {
		t.Errorf("Build of a long list: %v", e)
	}
}

// A tail that is shared has a label, and does not go on the list.
func TestBuildTails(t *testing.T) {
	for s, g := range map[string]graph{
		"(a b c)":                    {cons(1, 2), name("A"), cons(3, 4), name("B"), cons(5, 6), name("C"), null},
		"(a . #0=(b . #0#))":         {cons(1, 2), name("A"), cons(3, 2), name("B")},
		"#(#0=(a . #1=(b)) #0# #1#)": {vector(1, 1, 3), cons(2, 3), name("A"), cons(4, 5), name("B"), null},
		"#0=(#0# . #0#)":             {cons(0, 0)},
		"#0=#(#0#)":                  {vector(0)},
		"(#0=\"x\" \"x\" . #0#)":     {cons(1, 2), text("x"), cons(3, 1), text("x")},
		"(#0=#(#0#) #1=#() #1#)":     {cons(1, 2), vector(1), cons(3, 4), vector(), cons(3, 5), null},
		"((a . b) . #(a))":           {cons(1, 4), cons(2, 3), name("A"), name("B"), vector(2)},
		"#(1 \\a #C(1 2) #A[0 3]())": {vector(1, 2, 3, 6), integer("1"), {Kind: api.FormChar, Text: "a"}, complexOf(4, 5), integer("1"), integer("2"), array("0 3")},
	} {
		if f, e := forms.Build(g); e != api.OK || !equal(f, read(t, s)) {
			t.Errorf("Build = %v, %v; expected %s", f, e, s)
		}
	}
}

// randomGraph returns a right graph with much sharing and many circles.
func randomGraph(r *rand.Rand) graph {
	n := r.Intn(9) + 1
	var raw graph
	for range n {
		pick := func() int { return r.Intn(n + 3) }
		switch r.Intn(6) {
		case 0, 1:
			raw = append(raw, cons(pick(), pick()))
		case 2:
			raw = append(raw, vector(pick(), pick()))
		case 3:
			raw = append(raw, array("1 2", pick(), pick()))
		case 4:
			raw = append(raw, text([]string{"x", "y"}[r.Intn(2)]))
		default:
			raw = append(raw, vector(pick()))
		}
	}
	// The last three are a symbol, an integer and a complex number; the latter two are made anew for each place.
	fresh := map[int]int{}
	var g graph
	var meet func(i int) int
	meet = func(i int) int {
		if at, ok := fresh[i]; ok {
			return at
		}
		at := len(g)
		switch i - n {
		case 0:
			g = append(g, name("A"))
		case 1:
			g = append(g, integer(strconv.Itoa(r.Intn(2))))
			return at
		case 2:
			g = append(g, complexOf(at+1, at+2), integer("1"), integer(strconv.Itoa(r.Intn(2)+1)))
			return at
		default:
			g = append(g, forms.Node{Kind: raw[i].Kind, Text: raw[i].Text})
		}
		fresh[i] = at
		if i >= n {
			return at
		}
		var kids []int
		for _, k := range raw[i].Kids {
			kids = append(kids, meet(k))
		}
		g[at].Kids = kids
		return at
	}
	meet(0)
	return g
}

func randomGraphs(t *testing.T, n int, f func(g graph)) {
	t.Helper()
	r := rand.New(rand.NewSource(1))
	for range n {
		g := randomGraph(r)
		if e := forms.CheckGraph(g); e != api.OK {
			t.Fatalf("CheckGraph of %v: %v", g, e)
		}
		before := snapshot(g)
		f(g)
		if snapshot(g) != before {
			t.Fatalf("the graph %v was changed", g)
		}
	}
}

// reached returns the nodes that are met from one on, in order.
func reached(g graph, i int) []int {
	var l []int
	var meet func(i int)
	meet = func(i int) {
		if slices.Contains(l, i) {
			return
		}
		l = append(l, i)
		for _, k := range g[i].Kids {
			meet(k)
		}
	}
	meet(i)
	return l
}

func TestPart(t *testing.T) {
	g := graph{cons(1, 2), text("x"), cons(1, 3), integer("1")}
	for i, want := range []graph{g, {text("x")}, {cons(1, 2), text("x"), integer("1")}, {integer("1")}} {
		if p, e := forms.Part(g, i); e != api.OK || !equalGraphs(p, want) {
			t.Errorf("Part %d = %v, %v", i, p, e)
		}
	}
	circle := graph{cons(1, 2), name("A"), cons(3, 0), name("B")}
	if p, e := forms.Part(circle, 2); e != api.OK || !equalGraphs(p, graph{cons(1, 2), name("B"), cons(3, 0), name("A")}) {
		t.Errorf("Part of a circle = %v, %v", p, e)
	}
	randomGraphs(t, 300, func(g graph) {
		whole, e := forms.Part(g, 0)
		if e != api.OK || !equalGraphs(whole, g) {
			t.Fatalf("Part 0 of %v = %v, %v", g, whole, e)
		}
		for i := range g {
			p, e := forms.Part(g, i)
			l := reached(g, i)
			if e != api.OK || forms.CheckGraph(p) != api.OK || len(p) != len(l) {
				t.Fatalf("Part %d of %v = %v, %v", i, g, p, e)
			}
			for at, old := range l {
				if p[at].Kind != g[old].Kind || p[at].Text != g[old].Text || p[at].Home != g[old].Home {
					t.Fatalf("Part %d of %v = %v", i, g, p)
				}
				for j, k := range g[old].Kids {
					if p[at].Kids[j] != slices.Index(l, k) {
						t.Fatalf("Part %d of %v = %v", i, g, p)
					}
				}
			}
			at := len(p) - 1
			again, e := forms.Part(p, at)
			direct, _ := forms.Part(g, l[at])
			if e != api.OK || !equalGraphs(again, direct) {
				t.Fatalf("Part %d of Part %d of %v = %v, %v", at, i, g, again, e)
			}
			spoilGraph(p)
		}
	})
}

func TestShared(t *testing.T) {
	for _, c := range []struct {
		g    graph
		want []int
	}{
		{graph{cons(1, 2), text("x"), cons(1, 3), integer("1")}, []int{1}}, {graph{cons(1, 1), name("A")}, nil}, {graph{vector(0)}, []int{0}}, {graph{vector()}, nil}, {graph{vector(1, 1), text("x")}, []int{1}}, {graph{vector(1, 1), {Kind: api.FormBits, Text: "1"}}, []int{1}}, {graph{vector(1, 1), array("0 0")}, []int{1}}, {graph{cons(1, 0), vector(0, 1)}, []int{0, 1}}, {graph{name("A")}, nil}, {graph{vector(1, 2, 2, 1), text("x"), cons(1, 1)}, []int{1, 2}},
	} {
		if l, e := forms.Shared(c.g); e != api.OK || !slices.Equal(l, c.want) {
			t.Errorf("Shared of %v = %v, %v", c.g, l, e)
		}
	}
	randomGraphs(t, 300, func(g graph) {
		var want []int
		for i, n := range g {
			places := 0
			if i == 0 {
				places = 1
			}
			for _, m := range g {
				for _, k := range m.Kids {
					if k == i {
						places++
					}
				}
			}
			if places > 1 && n.Kind >= api.FormString {
				want = append(want, i)
			}
		}
		if l, e := forms.Shared(g); e != api.OK || !slices.Equal(l, want) {
			t.Fatalf("Shared of %v = %v, %v; expected %v", g, l, e, want)
		}
	})
}

func TestCircular(t *testing.T) {
	for _, c := range []struct {
		g    graph
		want []bool
	}{{graph{cons(1, 0), name("A")}, []bool{true, false}}, {graph{cons(1, 2), name("A"), cons(1, 2)}, []bool{false, false, true}}, {graph{vector(1), vector(0, 1)}, []bool{true, true}}, {graph{vector(1, 1), text("x")}, []bool{false, false}}, {graph{vector(0)}, []bool{true}}, {graph{vector(1, 3), vector(2), vector(0), vector()}, []bool{true, true, true, false}}} {
		for i, want := range c.want {
			if is, e := forms.Circular(c.g, i); is != want || e != api.OK {
				t.Errorf("Circular %d of %v: %v, %v", i, c.g, is, e)
			}
		}
	}
	randomGraphs(t, 300, func(g graph) {
		for i, n := range g {
			want := false
			for _, k := range n.Kids {
				want = want || slices.Contains(reached(g, k), i)
			}
			if is, e := forms.Circular(g, i); is != want || e != api.OK {
				t.Fatalf("Circular %d of %v: %v, %v", i, g, is, e)
			}
		}
	})
}

func TestCars(t *testing.T) {
	g := graph{cons(1, 2), text("x"), cons(1, 3), cons(4, 5), integer("1"), null}
	for i, want := range []struct {
		l    []int
		last int
	}{{[]int{1, 1, 4}, 5}, {nil, 1}, {[]int{1, 4}, 5}, {[]int{4}, 5}, {nil, 4}, {nil, 5}} {
		if l, last, e := forms.Cars(g, i); e != api.OK || last != want.last || !slices.Equal(l, want.l) {
			t.Errorf("Cars %d = %v, %d, %v", i, l, last, e)
		}
	}
	for _, g := range []graph{{cons(1, 0), name("A")}, {cons(1, 2), name("A"), cons(1, 2)}, {cons(1, 2), name("A"), cons(1, 3), cons(1, 2)}} {
		if l, last, e := forms.Cars(g, 0); e != api.ErrOrder || len(l) != 0 || last != 0 {
			t.Errorf("Cars of a circle = %v, %d, %v", l, last, e)
		}
	}
	// A circle through a car is no circle of the list.
	if l, last, e := forms.Cars(graph{cons(0, 1), cons(0, 2), null}, 0); e != api.OK || last != 2 || !slices.Equal(l, []int{0, 0}) {
		t.Errorf("Cars of a list with itself = %v, %d, %v", l, last, e)
	}
}
