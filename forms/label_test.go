package forms_test

import (
	"strings"
	"testing"

	"commonform/api"
	"commonform/forms"
)

// wrongForms returns forms with errors, and these.
func wrongForms(t *testing.T) map[string]struct {
	f    api.Form
	want api.Errno
} {
	return map[string]struct {
		f    api.Form
		want api.Errno
	}{
		"size":  {nested(101, symbol("A")), api.ErrSize},
		"form":  {read(t, "(01)"), api.ErrForm},
		"twice": {read(t, "(#1=(a) #1=(b))"), api.ErrTwice},
		"label": {read(t, "(#1# #1=(a))"), forms.ErrLabel},
		"zero":  {api.Form{}, api.ErrForm},
	}
}

func TestNormal(t *testing.T) {
	for s, want := range map[string]string{
		"a": "a", "(a b)": "(a b)", "#7=(a)": "(a)", "#5=(a . #5#)": "#0=(a . #0#)", "(#1=(a) #1#)": "(#0=(a) #0#)", "(#1=a #1#)": "(a a)", "(#1=5 #1# . #1#)": "(5 5 . 5)", "(#1=\\x #1#)": "(\\x \\x)", "(#1=#C(1 2) #1#)": "(#C(1 2) #C(1 2))", "(#1=\"x\" #1#)": "(#0=\"x\" #0#)", "(#1=#*01 #1#)": "(#0=#*01 #0#)", "(#1=#() #1#)": "(#0=#() #0#)", "(#1=nil #1#)": "(nil nil)", "(#1=#s3f800000 #1#)": "(#s3f800000 #s3f800000)", "(#1=#A[]( a) #1#)": "(#0=#A[]( a) #0#)",
		"(#3=#() #7=#() #7#)": "(#() #0=#() #0#)", "(#9=(a) #4=(b) #4# #9#)": "(#0=(a) #1=(b) #1# #0#)", "#9=(#4=(b) #4# #9#)": "#0=(#1=(b) #1# #0#)", "(#9=(#4=(b)) #4#)": "((#0=(b)) #0#)",
		"(a . #1=(b))": "(a b)", "(a . #1=(b . #2=(c . #3=(d . e))))": "(a b c d . e)", "(a . #1=(b . #2=(c #2#)))": "(a b . #0=(c #0#))", "(a . #1=(b . #1#))": "(a . #0=(b . #0#))", "(a . #1=b)": "(a . b)", "(a #1=(b) . #1#)": "(a #0=(b) . #0#)", "(a #1=b . #1#)": "(a b . b)", "(a . #1=#(b))": "(a . #(b))", "(a #1=nil . #1#)": "(a nil)", "(a (b . #1=(c)) . #2=(d))": "(a (b c) d)", "#1=(a . #2=(b))": "(a b)",
		"#(#1=(a) #2=(#1#) #2#)": "#(#0=(a) #1=(#0#) #1#)", "#1=#(#2=a #2# #1#)": "#0=#(a a #0#)",
	} {
		got, e := forms.Normal(read(t, s))
		if !equal(got, read(t, want)) || e != api.OK {
			t.Errorf("Normal of %s = %v, %v; expected %s", s, got, e, want)
		}
	}
	for what, c := range wrongForms(t) {
		if got, e := forms.Normal(c.f); e != c.want || !equal(got, api.Form{}) {
			t.Errorf("Normal of a wrong form, %s: %v, %v", what, got, e)
		}
	}
}

// A complex number in the place of a reference may make the form too great.
func TestNormalIsTooGreat(t *testing.T) {
	label, ref := read(t, "#1=#C(1 2)"), read(t, "#1#")
	great := node(api.FormVector, "", append([]api.Form{label}, fill(1995, ref)...)...)
	if got, e := forms.Normal(great); e != api.ErrSize || !equal(got, api.Form{}) {
		t.Errorf("Normal of many references to a complex number: %v", e)
	}
	if got, e := forms.Normal(node(api.FormVector, "", append([]api.Form{label}, fill(665, ref)...)...)); e != api.OK || count(got, api.FormComplex) != 666 {
		t.Errorf("Normal with 1999 nodes: %v", e)
	}
	if _, e := forms.Normal(node(api.FormVector, "", append([]api.Form{label}, fill(666, ref)...)...)); e != api.ErrSize {
		t.Errorf("Normal with 2002 nodes: %v", e)
	}
	if _, e := forms.Normal(node(api.FormVector, "", label, nested(98, ref))); e != api.OK {
		t.Errorf("Normal with the depth 100: %v", e)
	}
	if _, e := forms.Normal(node(api.FormVector, "", label, nested(99, ref))); e != api.ErrSize {
		t.Errorf("Normal with the depth 101: %v", e)
	}
}

func TestNormalOfMany(t *testing.T) {
	randomForms(t, 600, func(f api.Form) {
		normal, e := forms.Normal(f)
		if e != api.OK || forms.Check(normal) != api.OK {
			t.Fatalf("Normal of %v: %v", f, e)
		}
		again, e := forms.Normal(normal)
		if e != api.OK || !equal(again, normal) {
			t.Fatalf("Normal of Normal of %v: %v", f, e)
		}
		if count(normal, api.FormLabel) > count(f, api.FormLabel) {
			t.Fatalf("Normal of %v has more labels", f)
		}
		other, e := forms.Normal(relabel(f, map[string]string{}))
		if e != api.OK || !equal(other, normal) {
			t.Fatalf("Normal of %v with other labels: %v", f, e)
		}
		if count(f, api.FormLabel) == 0 && !equal(normal, f) {
			t.Fatalf("Normal of %v, which has no labels: %v", f, normal)
		}
		spoil(normal)
	})
}

func TestSame(t *testing.T) {
	for _, c := range []struct {
		a, b string
		want bool
	}{
		{"(#1=(a) #1#)", "((a) (a))", false}, {"(#1=a #1#)", "(a a)", true}, {"(#1=5 #1#)", "(5 5)", true}, {"(#1=\\x #1#)", "(\\x \\x)", true}, {"(#1=\"x\" #1#)", "(\"x\" \"x\")", false}, {"(#1=#*1 #1#)", "(#*1 #*1)", false}, {"(#1=#() #1#)", "(#() #())", false}, {"(#1=(a) #1#)", "(#2=(a) #2#)", true}, {"#1=(a)", "(a)", true}, {"(a . #1=(b))", "(a b)", true}, {"#1=(a . #1#)", "#2=(a . #2#)", true}, {"#1=(a . #1#)", "#1=(a a . #1#)", false}, {"#1=(a . #1#)", "(a . #1=(a . #1#))", false}, {"a", "b", false}, {"(#1=(a) #2=(a) #1# #2#)", "(#1=(a) #2=(a) #2# #1#)", false}, {"(#1=#C(1 2) #1#)", "(#C(1 2) #C(1 2))", true},
	} {
		for _, both := range [][2]string{{c.a, c.b}, {c.b, c.a}} {
			if is, e := forms.Same(read(t, both[0]), read(t, both[1])); is != c.want || e != api.OK {
				t.Errorf("Same of %s and %s: %v, %v", both[0], both[1], is, e)
			}
		}
	}
	wrong := wrongForms(t)
	for what, c := range wrong {
		if is, e := forms.Same(c.f, symbol("A")); is || e != c.want {
			t.Errorf("Same of a wrong form, %s: %v, %v", what, is, e)
		}
		if is, e := forms.Same(symbol("A"), c.f); is || e != c.want {
			t.Errorf("Same with a wrong form, %s: %v, %v", what, is, e)
		}
		if is, e := forms.Same(c.f, wrong["twice"].f); is || e != c.want {
			t.Errorf("Same of two wrong forms, %s: %v, %v", what, is, e)
		}
		if is, e := forms.Same(c.f, c.f); is || e != c.want {
			t.Errorf("Same of a wrong form and itself, %s: %v, %v", what, is, e)
		}
	}
}

func TestSameIsAnEquivalence(t *testing.T) {
	var l []api.Form
	randomForms(t, 40, func(f api.Form) {
		normal, _ := forms.Normal(f)
		l = append(l, f, relabel(f, map[string]string{}), normal)
		p, e := forms.Plain(f)
		if e == api.OK {
			l = append(l, p)
		}
		labelled := node(api.FormVector, "", f)
		if f.Kind != api.FormLabel {
			labelled = node(api.FormVector, "", node(api.FormLabel, "777", f))
			if count(f, api.FormLabel) > 0 && strings.Contains(snapshot(f), "777") {
				return
			}
		}
		if is, e := forms.Same(labelled, node(api.FormVector, "", f)); !is || e != api.OK {
			t.Errorf("Same of %v with a label around it: %v, %v", f, is, e)
		}
	})
	for i, a := range l {
		if is, e := forms.Same(a, a); !is || e != api.OK {
			t.Errorf("Same of %v and itself: %v, %v", a, is, e)
		}
		for k, b := range l {
			one, _ := forms.Same(a, b)
			if other, _ := forms.Same(b, a); one != other {
				t.Errorf("Same of %v and %v is not symmetric", a, b)
			}
			if !one {
				continue
			}
			p, e := forms.Plain(a)
			q, d := forms.Plain(b)
			if !equal(p, q) || e != d {
				t.Errorf("Plain of %v and %v, which are the Same", a, b)
			}
			if third, _ := forms.Same(a, l[(i+k)%len(l)]); third {
				if both, _ := forms.Same(b, l[(i+k)%len(l)]); !both {
					t.Errorf("Same is not transitive")
				}
			}
		}
	}
}

func TestPlain(t *testing.T) {
	for s, want := range map[string]string{
		"a": "a", "(a b)": "(a b)", "#1=(a)": "(a)", "(#1=(a) #1#)": "((a) (a))", "(#1=a #1#)": "(a a)", "(#1=(a) . #1#)": "((a) a)", "(#1=(a . b) . #1#)": "((a . b) a . b)", "(a . #1=(b))": "(a b)", "(a . #1=(b . #2=(c)))": "(a b c)", "(#1=(a) #2=(#1# #1#) #2#)": "((a) ((a) (a)) ((a) (a)))", "(#1=(a) #2=(b . #1#) c . #2#)": "((a) (b a) c b a)", "#(#1=\"x\" #1#)": "#(\"x\" \"x\")", "(#1=#C(1 2) #1#)": "(#C(1 2) #C(1 2))", "(#1=(a #2=(b)) #2# #1#)": "((a (b)) (b) (a (b)))", "(#1=#() . #1#)": "(#() . #())", "(#1=nil . #1#)": "(nil)", "#A[1 2](#1=(a) #1#)": "#A[1 2]((a) (a))",
	} {
		got, e := forms.Plain(read(t, s))
		if !equal(got, read(t, want)) || e != api.OK {
			t.Errorf("Plain of %s = %v, %v; expected %s", s, got, e, want)
		}
	}
	for _, s := range []string{"#1=(a . #1#)", "#1=(#1#)", "(a #1=#(b (#1#)))", "#1=(#2=(a) #2# #1#)", "#1=(a #2=(b #1#))", "#1=#(#2=#(#1#) #2#)", "(#1=(a) #1# #2=(#2#))"} {
		if got, e := forms.Plain(read(t, s)); e != forms.ErrCircle || !equal(got, api.Form{}) {
			t.Errorf("Plain of %s: %v, %v", s, got, e)
		}
	}
	for what, c := range wrongForms(t) {
		if got, e := forms.Plain(c.f); e != c.want || !equal(got, api.Form{}) {
			t.Errorf("Plain of a wrong form, %s: %v, %v", what, got, e)
		}
	}
}

func TestPlainIsTooGreat(t *testing.T) {
	// Each label has the one ahead of it twice.
	l := []api.Form{read(t, "#0=(a)")}
	for i := 1; i < 60; i++ {
		text := string(rune('0'+i/10)) + string(rune('0'+i%10))
		ahead := l[i-1].Text
		l = append(l, node(api.FormLabel, strings.TrimPrefix(text, "0"), node(api.FormCons, "", node(api.FormRef, ahead), node(api.FormRef, ahead))))
	}
	if _, e := forms.Plain(node(api.FormVector, "", l[:6]...)); e != api.OK {
		t.Errorf("Plain of 6 labels: %v", e)
	}
	if got, e := forms.Plain(node(api.FormVector, "", l...)); e != api.ErrSize || !equal(got, api.Form{}) {
		t.Errorf("Plain of 60 labels: %v", e)
	}
	circle := node(api.FormVector, "", append(l, read(t, "#99=(#99#)"))...)
	if _, e := forms.Plain(circle); e != forms.ErrCircle {
		t.Errorf("Plain of a great circle: %v", e)
	}
	vector := node(api.FormLabel, "1", node(api.FormVector, "", fill(9, symbol("A"))...))
	for n, want := range map[int]api.Errno{198: api.OK, 199: api.ErrSize, 1000: api.ErrSize} {
		f := node(api.FormVector, "", append(append([]api.Form{vector}, fill(n, node(api.FormRef, "1"))...), fill(9, symbol("B"))...)...)
		if _, e := forms.Plain(f); e != want {
			t.Errorf("Plain with %d nodes: %v", 10*(n+1)+10, e)
		}
	}
	inner := node(api.FormLabel, "1", nested(50, symbol("A")))
	for depth, want := range map[int]api.Errno{50: api.OK, 51: api.ErrSize} {
		if _, e := forms.Plain(node(api.FormVector, "", inner, nested(depth, node(api.FormRef, "1")))); e != want {
			t.Errorf("Plain with the depth %d: %v", depth+50, e)
		}
		ahead := node(api.FormRef, "1")
		for range depth - 1 {
			ahead = node(api.FormVector, "", ahead, symbol("B"))
		}
		if _, e := forms.Plain(node(api.FormVector, "", inner, ahead, symbol("C"))); e != want {
			t.Errorf("Plain with the depth %d in first elements: %v", depth+50, e)
		}
	}
}

func TestPlainOfMany(t *testing.T) {
	randomForms(t, 600, func(f api.Form) {
		plain, e := forms.Plain(f)
		normal, _ := forms.Normal(f)
		other, d := forms.Plain(normal)
		if e != d || !equal(plain, other) {
			t.Fatalf("Plain of Normal of %v: %v, %v", f, e, d)
		}
		if e != api.OK {
			return
		}
		if forms.Check(plain) != api.OK || count(plain, api.FormLabel)+count(plain, api.FormRef) > 0 {
			t.Fatalf("Plain of %v: %v", f, plain)
		}
		again, e := forms.Plain(plain)
		if e != api.OK || !equal(again, plain) {
			t.Fatalf("Plain of Plain of %v: %v", f, e)
		}
		spoil(plain)
	})
}

// The copies that stand for references share no memory.
func TestMemoryOfPlain(t *testing.T) {
	for _, s := range []string{"(#1=((a)) #1# #1#)", "(#1=(b (a)) . #1#)"} {
		f, _ := forms.Plain(read(t, s))
		f.Kids[0].Kids[0] = symbol("CHANGED")
		if strings.Count(snapshot(f), "CHANGED") != 1 {
			t.Errorf("Plain of %s: copies share memory", s)
		}
	}
	f, _ := forms.Normal(read(t, "(#1=#C(1 2) #1# #1#)"))
	f.Kids[1].Kids[0] = symbol("CHANGED")
	if strings.Count(snapshot(f), "CHANGED") != 1 {
		t.Error("Normal: copies share memory")
	}
}
