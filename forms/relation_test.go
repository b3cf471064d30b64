package forms_test

import (
	"testing"

	"commonform/api"
	"commonform/forms"
)

var relations = []func(g []forms.Node, i, k int) (bool, api.Errno){forms.Eql, forms.Alike, forms.Similar}

func TestRelationsOfForms(t *testing.T) {
	// The first two elements of each vector; the relations from the narrowest one that has them on: 0 Eql, 1 Alike, 2 Similar, 3 none.
	for s, narrowest := range map[string]int{
		"#(a a)": 0, "#(a b)": 3, "#(5 5)": 0, "#(5 6)": 3, "#(1/2 1/2)": 0, "#(\\a \\a)": 0, "#(\\a \\b)": 3, "#(\\a \"a\")": 3, "#(#s3f800000 #s3f800000)": 0, "#(#s3f800000 1)": 3, "#(#s00000000 #s80000000)": 3, "#(#d3ff0000000000000 #d3ff0000000000000)": 0, "#(#s3f800000 #d3ff0000000000000)": 3,
		"#(#C(1 2) #C(1 2))": 0, "#(#C(1 2) #C(1 3))": 3, "#(#C(2 2) #C(1 2))": 3, "#(#C(1 2) #C(1/2 2))": 3,
		"#(\"x\" \"x\")": 1, "#(\"x\" \"y\")": 3, "#(#1=\"x\" #1#)": 0, "#(#*01 #*01)": 1, "#(#*01 #*0)": 3, "#(#*01 \"01\")": 3, "#(#* \"\")": 3,
		"#((a) (a))": 1, "#((a) (b))": 3, "#((a) (a a))": 3, "#((a) (a . b))": 3, "#(#1=(a) #1#)": 0, "#((\"x\" . 1) (\"x\" . 1))": 1, "#((\"x\" . #C(1 2)) (\"x\" . #C(1 2)))": 1, "#((a . b) #(a b))": 3,
		"#(#() #())": 2, "#(#(a 5 \"x\") #(a 5 \"x\"))": 2, "#(#(a) #(a a))": 3, "#(#(a) #(b))": 3, "#(#1=#(a) #1#)": 0, "#((#(a)) (#(a)))": 2, "#((#1=#(a)) (#1#))": 1, "#(#A[1 2](a b) #A[1 2](a b))": 2, "#(#A[1 2](a b) #A[2 1](a b))": 3, "#(#A[1 2](a b) #A[1 2](a c))": 3, "#(#A[0 1]() #A[1 0]())": 3, "#(#A[]( a) #A[]( a))": 2, "#(#A[]( a) #(a))": 3,
		"#(#1=(a . #1#) #2=(a . #2#))": 1, "#(#1=(a . #1#) #2=(a a . #2#))": 1, "#(#1=(a . #1#) #2=(a b . #2#))": 3, "#(#1=(a b . #1#) #2=(a b a b . #2#))": 1, "#(#1=(a b . #1#) #2=(a b a . #2#))": 3, "#(#1=(#1# . #1#) #2=((#2# . #2#) . #2#))": 1, "#(#1=#(#1#) #2=#(#(#2#)))": 2, "#(#1=#(#1#) #2=(#2# . #2#))": 3, "#(#1=(a . #1#) (a . #2=(a . #2#)))": 1, "#(#1=(\"x\" . #1#) #2=(\"x\" \"x\" . #2#))": 1, "#(#1=(#(a) . #1#) #2=(#(a) . #2#))": 2, "#(#1=(a . #2=(b . #1#)) #2#)": 3, "#(#1=(a . #2=(a . #1#)) #2#)": 1, "#(#1=#(a #1#) #(a #(a #1#)))": 2, "#(#1=(1 . #1#) #2=(1 2 . #2#))": 3,
	} {
		g, e := forms.Nodes(read(t, s))
		if e != api.OK {
			t.Fatalf("Nodes of %s: %v", s, e)
		}
		i, k := g[0].Kids[0], g[0].Kids[1]
		for n, related := range relations {
			for _, pair := range [][2]int{{i, k}, {k, i}} {
				if is, e := related(g, pair[0], pair[1]); is != (n >= narrowest) || e != api.OK {
					t.Errorf("relation %d of the elements of %s: %v, %v", n, s, is, e)
				}
			}
		}
	}
}

// Symbols of one name and two homes are two objects.
func TestRelationsOfSymbols(t *testing.T) {
	g := graph{cons(1, 4), cons(2, 3), name("A"), null, cons(5, 3), {Kind: api.FormSymbol, Text: "A", Home: "Q"}}
	for n, related := range relations {
		for _, pair := range [][2]int{{2, 5}, {1, 4}, {3, 2}} {
			if is, e := related(g, pair[0], pair[1]); is || e != api.OK {
				t.Errorf("relation %d of %v: %v, %v", n, pair, is, e)
			}
		}
	}
	if c, e := forms.Coalesce(g); e != api.OK || !equalGraphs(c, g) {
		t.Errorf("Coalesce of symbols with two homes: %v, %v", c, e)
	}
}

// greatest returns a relation of all pairs by its definition: all pairs are in it at first, and those that do not agree are taken out as long as there are some.
func greatest(g []forms.Node, relation int) [][]bool {
	is := make([][]bool, len(g))
	for i := range g {
		is[i] = make([]bool, len(g))
		for k := range g {
			is[i][k] = true
		}
	}
	for changed := true; changed; {
		changed = false
		for i, a := range g {
			for k, b := range g {
				if is[i][k] && i != k && !agree(relation, a, b, is) {
					is[i][k], changed = false, true
				}
			}
		}
	}
	return is
}

func agree(relation int, a, b forms.Node, is [][]bool) bool {
	if a.Kind != b.Kind || len(a.Kids) != len(b.Kids) {
		return false
	}
	parts := true
	for j := range a.Kids {
		parts = parts && is[a.Kids[j]][b.Kids[j]]
	}
	switch a.Kind {
	case api.FormInt, api.FormRatio, api.FormSingle, api.FormDouble, api.FormChar:
		return a.Text == b.Text
	case api.FormComplex:
		return parts
	case api.FormString, api.FormBits:
		return relation >= 1 && a.Text == b.Text
	case api.FormCons:
		return relation >= 1 && parts
	case api.FormVector, api.FormArray:
		return relation >= 2 && a.Text == b.Text && parts
	}
	return false
}

func TestRelationsAreGreatest(t *testing.T) {
	randomGraphs(t, 600, func(g graph) {
		var narrower [][]bool
		for n, related := range relations {
			want := greatest(g, n)
			for i := range g {
				for k := range g {
					is, e := related(g, i, k)
					if is != want[i][k] || e != api.OK {
						t.Fatalf("relation %d of %d and %d in %v: %v, %v", n, i, k, g, is, e)
					}
					if narrower != nil && narrower[i][k] && !is {
						t.Fatalf("relation %d of %d and %d in %v: narrower than the one ahead", n, i, k, g)
					}
				}
			}
			narrower = want
			for i := range g {
				for k := range g {
					for j := range g {
						if want[i][i] && (want[i][k] != want[k][i] || want[i][k] && want[k][j] && !want[i][j]) {
							t.Fatalf("relation %d in %v is no equivalence", n, g)
						}
					}
				}
			}
		}
	})
}

func TestRelationsOfLongCircles(t *testing.T) {
	// Two circles of conses whose lengths have no common divisor: all conses are alike.
	var g graph
	g = append(g, vector(1, 400))
	for i := range 399 {
		g = append(g, cons(0, (i+1)%399+1))
	}
	for i := range 400 {
		g = append(g, cons(0, (i+1)%400+400))
	}
	if is, e := forms.Alike(g, 1, 400); !is || e != api.OK {
		t.Errorf("Alike of long circles: %v, %v", is, e)
	}
	c, e := forms.Coalesce(g)
	if e != api.OK || !equalGraphs(c, graph{vector(1, 1), cons(0, 1)}) {
		t.Errorf("Coalesce of long circles: %d nodes, %v", len(c), e)
	}
	// One cons of them is another one.
	g[798].Kids[0] = 798
	if is, e := forms.Alike(g, 1, 400); is || e != api.OK {
		t.Errorf("Alike of circles that differ: %v, %v", is, e)
	}
}

func TestCoalesce(t *testing.T) {
	for s, want := range map[string]string{
		"(\"x\" \"x\" . 1)": "(#3=\"x\" #3# . 1)", "((a) (a))": "(#1=(a) #1#)", "(#1=(a) #1#)": "(#1=(a) #1#)", "(5 5)": "(5 5)", "(a a)": "(a a)", "(#() #())": "(#1=#() #1#)", "(#(\"x\") \"x\" #(\"x\"))": "(#1=#(#2=\"x\") #2# #1#)", "#1=(a a . #1#)": "#1=(a . #1#)", "#1=(a . #2=(a . #1#))": "#1=(a . #1#)", "(#C(1 2) #C(1 2))": "(#C(1 2) #C(1 2))", "(#(5) #(5))": "(#1=#(5) #1#)", "(#*1 #*1 #*0)": "(#1=#*1 #1# #*0)", "#(#1=#(#1#) #2=#(#(#2#)))": "#(#1=#(#1#) #1#)", "(a b a b)": "(a b a b)", "((a) b a)": "(#1=(a) b . #1#)", "\"x\"": "\"x\"", "5": "5", "(nil nil)": "(nil nil)", "#A[1 2](#A[0 0]() #A[0 0]())": "#A[1 2](#1=#A[0 0]() #1#)", "(#A[0 0]() #A[0 1]())": "(#A[0 0]() #A[0 1]())", "(\\x \\x)": "(\\x \\x)", "#1=(#1# . #2=(#1# . #2#))": "#1=(#1# . #1#)",
	} {
		g, e := forms.Nodes(read(t, s))
		if e != api.OK {
			t.Fatalf("Nodes of %s: %v", s, e)
		}
		expected, _ := forms.Nodes(read(t, want))
		if c, e := forms.Coalesce(g); e != api.OK || !equalGraphs(c, expected) {
			t.Errorf("Coalesce of %s = %v, %v; expected %v", s, c, e, expected)
		}
	}
}

// beside returns a graph with two others in it, the first nodes of which are the parts of its first one.
func beside(t *testing.T, a, b graph) graph {
	t.Helper()
	symbols := map[string]int{}
	g := graph{vector()}
	add := func(part graph) {
		places := map[int]int{}
		var meet func(i int) int
		meet = func(i int) int {
			n := part[i]
			if at, ok := places[i]; ok {
				return at
			}
			if at, ok := symbols[n.Text]; ok && n.Kind == api.FormSymbol {
				return at
			}
			at := len(g)
			places[i] = at
			if n.Kind == api.FormSymbol {
				symbols[n.Text] = at
			}
			g = append(g, forms.Node{Kind: n.Kind, Text: n.Text, Home: n.Home})
			var kids []int
			for _, k := range n.Kids {
				kids = append(kids, meet(k))
			}
			g[at].Kids = kids
			return at
		}
		first := meet(0)
		g[0].Kids = append(g[0].Kids, first)
	}
	add(a)
	add(b)
	if e := forms.CheckGraph(g); e != api.OK {
		t.Fatalf("two graphs beside each other: %v", e)
	}
	return g
}

func TestCoalesceOfMany(t *testing.T) {
	randomGraphs(t, 400, func(g graph) {
		c, e := forms.Coalesce(g)
		if e != api.OK || forms.CheckGraph(c) != api.OK {
			t.Fatalf("Coalesce of %v = %v, %v", g, c, e)
		}
		for i := range c {
			for k := range i {
				is, _ := forms.Similar(c, i, k)
				if is && c[i].Kind >= api.FormString {
					t.Fatalf("Coalesce of %v = %v: %d and %d are similar", g, c, i, k)
				}
			}
		}
		again, e := forms.Coalesce(c)
		if e != api.OK || !equalGraphs(again, c) {
			t.Fatalf("Coalesce of Coalesce of %v = %v, %v", g, again, e)
		}
		both := beside(t, g, c)
		if is, e := forms.Similar(both, both[0].Kids[0], both[0].Kids[1]); !is || e != api.OK {
			t.Fatalf("Coalesce of %v = %v: the first ones are not similar", g, c)
		}
		before := snapshot(g)
		spoilGraph(c)
		if snapshot(g) != before {
			t.Fatalf("Coalesce of %v shares memory", g)
		}
	})
}
