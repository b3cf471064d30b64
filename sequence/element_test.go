package sequence_test

import (
	"math"
	"strings"
	"testing"

	"commonform/api"
	"commonform/sequence"
)

func TestAlike(t *testing.T) {
	for _, c := range []struct {
		x, y        string
		same, loose bool
	}{
		{`"ab"`, `"Ab"`, false, true}, {`1`, `1.0`, false, true}, {`1`, `1`, true, true}, {`1/2`, `0.5d0`, false, true}, {`0.1`, `1/10`, false, false}, {`0.1`, `0.1d0`, false, false}, {`0.0`, `-0.0`, false, true}, {`#C(1 2)`, `#C(1.0 2.0)`, false, true}, {`#C(1.0 0.0)`, `1`, false, true}, {`#C(1 2)`, `1`, false, false},
		{`#\a`, `#\A`, false, true}, {`#\é`, `#\É`, false, false}, {`#\a`, `"a"`, false, false}, {`"é"`, `"É"`, false, false}, {`"[]^_"`, `"{}~?"`, false, false}, {`"az"`, `"AZ"`, false, true}, {`"@"`, "\"`\"", false, false},
		{`(1 "a")`, `(1.0 "A")`, false, true}, {`(1 . 2)`, `(1 2)`, false, false}, {`(1)`, `#(1)`, false, false}, {`#(1 2)`, `#(1.0 2)`, false, true}, {`#(1)`, `#(1 1)`, false, false}, {`#2A((1))`, `#2A((1.0))`, false, false}, {`a`, `|a|`, false, false}, {`a`, `:a`, false, false}, {`a`, `a`, true, true}, {`#*01`, `#*01`, true, true}, {`#*01`, `#*010`, false, false}, {`((1) ("x"))`, `((1.0) ("X"))`, false, true},
	} {
		x, y := one(t, c.x), one(t, c.y)
		for test, want := range []bool{c.same, c.loose} {
			if is, e := sequence.Alike(test, x, y); is != want || e != api.OK {
				t.Errorf("Alike(%d, %s, %s) = %v, %v", test, c.x, c.y, is, e)
			}
		}
	}
	for _, test := range []int{-1, 2, math.MaxInt, math.MinInt} {
		if is, e := sequence.Alike(test, num(1), num(1)); is || e != api.ErrArg {
			t.Errorf("Alike with the test %d = %v, %v", test, is, e)
		}
	}
}

// P12.2, and both tests against their definitions, over all pairs of many forms.
func TestTests(t *testing.T) {
	l := everything(t)
	for test := range 2 {
		for _, x := range l {
			for _, y := range l {
				is, e := sequence.Alike(test, x, y)
				if want := isAlike(test, x, y); is != want || e != api.OK {
					t.Fatalf("Alike(%d, %s, %s) = %v, %v", test, text(x), text(y), is, e)
				}
				back, _ := sequence.Alike(test, y, x)
				if is != back {
					t.Errorf("Alike(%d, %s, %s) is not symmetric", test, text(x), text(y))
				}
				if same, _ := sequence.Alike(sequence.Same, x, y); same && !is {
					t.Errorf("what is alike by Same is not by Loose: %s, %s", text(x), text(y))
				}
				for _, z := range l {
					if on, _ := sequence.Alike(test, y, z); is && on {
						if all, _ := sequence.Alike(test, x, z); !all {
							t.Errorf("Alike(%d) is not transitive: %s, %s, %s", test, text(x), text(y), text(z))
						}
					}
				}
			}
		}
	}
}

func TestLess(t *testing.T) {
	l := everything(t)
	n := 0
	for order := range 3 {
		for _, x := range l {
			for _, y := range l {
				is, e := sequence.Less(order, x, y)
				want, ok := isLess(order, x, y)
				if is != want || ok != (e == api.OK) || !ok && e != api.ErrType {
					t.Fatalf("Less(%d, %s, %s) = %v, %v", order, text(x), text(y), is, e)
				}
				if is {
					n++
				}
				if back, _ := sequence.Less(order, y, x); is && back {
					t.Errorf("Less(%d, %s, %s) holds both ways", order, text(x), text(y))
				}
				for _, z := range l {
					if on, _ := sequence.Less(order, y, z); is && on {
						if all, _ := sequence.Less(order, x, z); !all {
							t.Errorf("Less(%d) is not transitive: %s, %s, %s", order, text(x), text(y), text(z))
						}
					}
				}
			}
		}
	}
	if n < 50 {
		t.Errorf("only %d pairs are in order", n)
	}
	for _, order := range []int{-1, 3, math.MaxInt} {
		if is, e := sequence.Less(order, api.Form{}, api.Form{}); is || e != api.ErrArg {
			t.Errorf("Less with the order %d = %v, %v", order, is, e)
		}
	}
}

func TestLessNumbers(t *testing.T) {
	rising := read(t, "-100000000000000000000 -11 -10 -9 -1 -1/2 -0.25 0 1/3 0.5 1 9 10 11 99 100 1.0e10 100000000000000000000 100000000000000000001 1.0d300")
	for i, x := range rising {
		for k, y := range rising {
			if is, e := sequence.Less(sequence.Numbers, x, y); is != (i < k) || e != api.OK {
				t.Errorf("Less(%s, %s) = %v, %v", x.Text, y.Text, is, e)
			}
		}
	}
	for _, s := range []string{"a b", "a ab", "|| a", "Z a", "ab b", "a é", "a10 a9"} {
		before, behind, _ := strings.Cut(strings.ReplaceAll(s, "|", ""), " ")
		x, y := node(api.FormString, before), node(api.FormString, behind)
		if is, _ := sequence.Less(sequence.Strings, x, y); !is {
			t.Errorf("%q is not less than %q", before, behind)
		}
	}
	huge := node(api.FormInt, strings.Repeat("9", 20001))
	if _, e := sequence.Less(sequence.Numbers, huge, num(1)); e != api.ErrType {
		t.Errorf("a number that is too large: %v", e)
	}
}

func TestTaken(t *testing.T) {
	for _, c := range []struct {
		key     int
		x, want string
	}{
		{sequence.Whole, "(1 2)", "(1 2)"}, {sequence.First, "(1 2)", "1"}, {sequence.First, "((a) 2)", "(a)"}, {sequence.Second, "(1 2)", "2"}, {sequence.Second, "(1 2 . 3)", "2"}, {sequence.Second, "(1 2 3)", "2"}, {sequence.Length, "(1 2 3)", "3"}, {sequence.Length, "(1 . 2)", "1"}, {sequence.Length, "#(1 2)", "2"}, {sequence.Length, "#()", "0"}, {sequence.Length, `"aé"`, "3"}, {sequence.Length, `""`, "0"},
		{sequence.First, "1", ""}, {sequence.First, "nil", ""}, {sequence.First, "#(1)", ""}, {sequence.Second, "(1)", ""}, {sequence.Second, "(1 . 2)", ""}, {sequence.Second, "1", ""}, {sequence.Second, "#(1 2 3)", ""}, {sequence.Length, "1", ""}, {sequence.Length, "nil", ""}, {sequence.Length, "#*01", ""}, {sequence.Length, "#2A((1))", ""}, {sequence.Length, "a", ""},
	} {
		x, e := sequence.Taken(c.key, one(t, c.x))
		if c.want == "" {
			if e != api.ErrType || !sameForm(x, api.Form{}) {
				t.Errorf("Taken(%d, %s) = %s, %v", c.key, c.x, text(x), e)
			}
			continue
		}
		if e != api.OK || !sameForm(x, one(t, c.want)) {
			t.Errorf("Taken(%d, %s) = %s, %v", c.key, c.x, text(x), e)
		}
	}
	for _, x := range everything(t) {
		for key := range 4 {
			got, e := sequence.Taken(key, x)
			want, ok := keyOf(key, x)
			if ok != (e == api.OK) || !sameForm(got, want) || !ok && e != api.ErrType {
				t.Errorf("Taken(%d, %s) = %s, %v", key, text(x), text(got), e)
			}
		}
	}
	for _, key := range []int{-1, 4, math.MaxInt} {
		if x, e := sequence.Taken(key, num(1)); e != api.ErrArg || !sameForm(x, api.Form{}) {
			t.Errorf("Taken with the key %d: %v", key, e)
		}
	}
	x := one(t, "((1) 2)")
	taken, _ := sequence.Taken(sequence.First, x)
	taken.Kids[0].Text = "9"
	if x.Kids[0].Kids[0].Text != "1" {
		t.Error("a key shares memory with the element")
	}
}
