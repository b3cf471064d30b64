package forms_test

import (
	"strconv"
	"strings"
	"testing"

	"commonform/api"
	"commonform/forms"
)

// fill returns copies of a form.
func fill(n int, f api.Form) []api.Form {
	l := make([]api.Form, n)
	for i := range l {
		l[i] = f
	}
	return l
}

// nested returns a vector in a vector and so on, with a form within, of this depth.
func nested(depth int, inner api.Form) api.Form {
	for range depth - 1 {
		inner = node(api.FormVector, "", inner)
	}
	return inner
}

func TestCheckNodes(t *testing.T) {
	one, null := node(api.FormInt, "1"), symbol("NIL")
	kids := []api.Form{one}
	single, double := node(api.FormSingle, "3f800000"), node(api.FormDouble, "3ff0000000000000")
	right := []api.Form{
		forms.Symbol("", ""), forms.Symbol("P", "A"), forms.Symbol("é", "日本"), forms.Symbol("P", strings.Repeat("x", 30000)),
		one, node(api.FormInt, "0"), node(api.FormInt, "-1"), node(api.FormInt, "1234567890"), node(api.FormInt, strings.Repeat("9", 30000)),
		node(api.FormRatio, "1/2"), node(api.FormRatio, "-7/3"), node(api.FormRatio, "10/9"), node(api.FormRatio, "999999999999999999/999999999999999998"), node(api.FormRatio, "1000000000000000000/2"), node(api.FormRatio, "2/4000000000000000000"), node(api.FormRatio, "-1000000000000000000/2"), node(api.FormRatio, "-999999999999999998/999999999999999997"),
		single, node(api.FormSingle, "7f800000"), node(api.FormSingle, "ffffffff"), double, node(api.FormDouble, "abcdef0123456789"),
		read(t, "#C(1 2)"), read(t, "#C(0 1/2)"), read(t, "#C(1/2 -3)"), node(api.FormComplex, "", single, node(api.FormSingle, "00000000")), node(api.FormComplex, "", double, double), read(t, "#C(1/2 1/2)"),
		node(api.FormChar, "a"), node(api.FormChar, "é"), node(api.FormChar, "\U0010ffff"), node(api.FormChar, "\x00"), node(api.FormChar, " "), node(api.FormChar, "\ufffd"),
		node(api.FormString, ""), node(api.FormString, "any\n日本"), node(api.FormBits, ""), node(api.FormBits, "0101"),
		read(t, "(1)"), read(t, "(1 . 2)"), read(t, "(1 . #1=(1))"), read(t, "#()"), read(t, "#(1 2 (3))"),
		node(api.FormArray, "", one), node(api.FormArray, "2 1", one, one), node(api.FormArray, "0 5"), node(api.FormArray, "5 0"), node(api.FormArray, "2000 2000 2000 2000 2000 2000 0"), node(api.FormArray, "0 2000 2000 2000 2000 2000 2000"), node(api.FormArray, "2000 0"), node(api.FormArray, "1 1 1 1 1 1 1", one), node(api.FormArray, "2 3 2", fill(12, one)...), node(api.FormArray, "1 1999", fill(1999, one)...),
		read(t, "#0=(a)"), read(t, "#999=(a)"), read(t, "#5=a"), read(t, "#5=(a . #5#)"), read(t, "(#1=(a) #1# #1#)"), read(t, "#(#1=\"x\" #2=\"x\" #1# #2#)"), read(t, "#1=(#2=(a . #1#) . #2#)"),
	}
	for _, f := range right {
		if e := forms.Check(f); e != api.OK {
			t.Errorf("Check of %.80v: %v", f, e)
		}
	}
	wrong := []api.Form{
		{}, {Kind: 15}, {Kind: -1}, {Kind: 1 << 40, Text: "1"},
		{Kind: api.FormSymbol, Text: "A", Home: "P", Kids: kids}, {Kind: api.FormSymbol, Text: "\xff", Home: "P"}, {Kind: api.FormSymbol, Text: "A", Home: "\xff"},
		node(api.FormInt, ""), node(api.FormInt, "-"), node(api.FormInt, "01"), node(api.FormInt, "-0"), node(api.FormInt, "00"), node(api.FormInt, "-01"), node(api.FormInt, "+1"), node(api.FormInt, "1a"), node(api.FormInt, "a1"), node(api.FormInt, "1a1"), node(api.FormInt, "--1"), node(api.FormInt, "1-"), node(api.FormInt, " 1"), node(api.FormInt, "1."), node(api.FormInt, "1/2"), node(api.FormInt, "１"), node(api.FormInt, "1", one), {Kind: api.FormInt, Text: "1", Home: "P"},
		node(api.FormRatio, "2/4"), node(api.FormRatio, "-2/4"), node(api.FormRatio, "0/2"), node(api.FormRatio, "1/1"), node(api.FormRatio, "3/1"), node(api.FormRatio, "1/0"), node(api.FormRatio, "1/-2"), node(api.FormRatio, "-0/2"), node(api.FormRatio, "01/2"), node(api.FormRatio, "1/02"), node(api.FormRatio, "1"), node(api.FormRatio, "1/"), node(api.FormRatio, "/2"), node(api.FormRatio, ""), node(api.FormRatio, "1/2/3"), node(api.FormRatio, "+1/2"), node(api.FormRatio, "a/2"), node(api.FormRatio, "1/a"), node(api.FormRatio, "999999999999999999/3"), node(api.FormRatio, "3/999999999999999999"), node(api.FormRatio, "-999999999999999999/3"), node(api.FormRatio, "0/1000000000000000000"), node(api.FormRatio, "6/9"), node(api.FormRatio, "1/2", one), {Kind: api.FormRatio, Text: "1/2", Home: "P"},
		node(api.FormSingle, "3f80000"), node(api.FormSingle, "3f8000000"), node(api.FormSingle, "3F800000"), node(api.FormSingle, "3g800000"), node(api.FormSingle, ""), node(api.FormSingle, "3ff0000000000000"), node(api.FormSingle, " 3f80000"), node(api.FormSingle, "3f800000", one), {Kind: api.FormSingle, Text: "3f800000", Home: "P"},
		node(api.FormDouble, "3f800000"), node(api.FormDouble, "3ff000000000000"), node(api.FormDouble, "3ff00000000000000"), node(api.FormDouble, "3FF0000000000000"), node(api.FormDouble, "3ff00000000000 0"), node(api.FormDouble, "3ff0000000000000", one), {Kind: api.FormDouble, Text: "3ff0000000000000", Home: "P"},
		read(t, "#C(1)"), read(t, "#C()"), read(t, "#C(1 2 3)"), read(t, "#C(1 0)"), read(t, "#C(1/2 0)"), node(api.FormComplex, "", single, one), node(api.FormComplex, "", one, single), node(api.FormComplex, "", single, double), node(api.FormComplex, "", double, single), read(t, "#C(1 a)"), read(t, "#C(a 1)"), read(t, "#C(1 #C(1 2))"), read(t, "#C(#C(1 2) 1)"), read(t, "#C(\"1\" 1)"), read(t, "#C(#1=1 2)"), read(t, "#C(1 #1=2)"), node(api.FormComplex, "x", one, one), {Kind: api.FormComplex, Home: "P", Kids: []api.Form{one, one}}, read(t, "#C(1 00)"), read(t, "#C(2/4 1)"), read(t, "#C(1 0/1)"),
		node(api.FormChar, ""), node(api.FormChar, "ab"), node(api.FormChar, "\xff"), node(api.FormChar, "é\u0301"), node(api.FormChar, "\xed\xa0\x80"), node(api.FormChar, "a", one), {Kind: api.FormChar, Text: "a", Home: "P"},
		node(api.FormString, "\xff"), node(api.FormString, "a\xc3"), node(api.FormString, "\xed\xa0\x80"), node(api.FormString, "a", one), {Kind: api.FormString, Text: "a", Home: "P"},
		node(api.FormBits, "012"), node(api.FormBits, "2"), node(api.FormBits, "0 1"), node(api.FormBits, "a"), node(api.FormBits, "01", one), {Kind: api.FormBits, Text: "01", Home: "P"},
		node(api.FormCons, ""), node(api.FormCons, "", one), node(api.FormCons, "", one, read(t, "(1)")), node(api.FormCons, "x", one, null), {Kind: api.FormCons, Home: "P", Kids: []api.Form{one, null}},
		node(api.FormVector, "1", one), {Kind: api.FormVector, Home: "P"},
		node(api.FormArray, "1", one), node(api.FormArray, "0"), node(api.FormArray, "2", one, one), node(api.FormArray, ""), node(api.FormArray, "", one, one), node(api.FormArray, "1 1"), node(api.FormArray, "2 2", one, one), node(api.FormArray, "1 1", one, one), node(api.FormArray, "1  1", one), node(api.FormArray, " 1 1", one), node(api.FormArray, "1 1 ", one), node(api.FormArray, " "), node(api.FormArray, "01 1", one), node(api.FormArray, "1 -1"), node(api.FormArray, "-1 -1", one), node(api.FormArray, "+1 1", one), node(api.FormArray, "1 x", one), node(api.FormArray, "2001 0"), node(api.FormArray, "0 2001"), node(api.FormArray, "0 99999999999999999999"), node(api.FormArray, "1 1 1 1 1 1 1 1", one), node(api.FormArray, "2000 2000 2000 2000 2000 2000 2000"), node(api.FormArray, "1\t1", one), {Kind: api.FormArray, Home: "P", Kids: kids}, node(api.FormArray, "256 256 256 256 256 256 256"), node(api.FormArray, "1024 1024 1024 1024 1024 1024 16"), node(api.FormArray, "0 00"),
		node(api.FormLabel, "1"), node(api.FormLabel, "1", one, one), node(api.FormLabel, "", one), node(api.FormLabel, "01", one), node(api.FormLabel, "1000", one), node(api.FormLabel, "-1", one), node(api.FormLabel, "x", one), node(api.FormLabel, "+1", one), {Kind: api.FormLabel, Text: "1", Home: "P", Kids: kids}, node(api.FormLabel, "99999999999999999999999", one),
		node(api.FormRef, "1", one), node(api.FormRef, ""), node(api.FormRef, "01"), node(api.FormRef, "1000"), node(api.FormRef, "x"), {Kind: api.FormRef, Text: "1", Home: "P"},
	}
	for _, f := range wrong {
		if e := forms.Check(f); e != api.ErrForm {
			t.Errorf("Check of %.80v: %v", f, e)
		}
		if e := forms.Check(node(api.FormVector, "", one, node(api.FormCons, "", f, null), one)); e != api.ErrForm {
			t.Errorf("Check of %.80v within a list: %v", f, e)
		}
	}
}

func TestCheckSize(t *testing.T) {
	one, bad := node(api.FormInt, "1"), node(api.FormInt, "01")
	for _, c := range []struct {
		what string
		f    api.Form
		want api.Errno
	}{
		{"2000 nodes", node(api.FormVector, "", fill(1999, one)...), api.OK},
		{"2001 nodes", node(api.FormVector, "", fill(2000, one)...), api.ErrSize},
		{"2001 wrong nodes", node(api.FormVector, "", fill(2000, bad)...), api.ErrSize},
		{"2000 wrong nodes", node(api.FormVector, "", fill(1999, bad)...), api.ErrForm},
		{"a wrong one ahead of too many nodes", node(api.FormVector, "x", fill(2000, one)...), api.ErrSize},
		{"the depth 100", nested(100, one), api.OK},
		{"the depth 101", nested(101, one), api.ErrSize},
		{"the depth 101, wrong", nested(101, bad), api.ErrSize},
		{"the depth 100, wrong", nested(100, bad), api.ErrForm},
		{"a wrong one ahead of the depth 101", node(api.FormVector, "x", bad, nested(100, one)), api.ErrSize},
		{"the depth 100 with labels", node(api.FormLabel, "1", nested(99, node(api.FormRef, "1"))), api.OK},
		{"a label that is wrong ahead of the depth 101", node(api.FormVector, "", node(api.FormRef, "1"), nested(100, one)), api.ErrSize},
	} {
		if e := forms.Check(c.f); e != c.want {
			t.Errorf("Check of %s: %v", c.what, e)
		}
	}
	// Great trees are looked at no longer than needed.
	great := api.Form{Kind: api.FormVector}
	for range 90 {
		great = node(api.FormVector, "", great, great, great)
	}
	if e := forms.Check(great); e != api.ErrSize {
		t.Errorf("Check of a great tree: %v", e)
	}
}

func TestCheckLabels(t *testing.T) {
	for s, want := range map[string]api.Errno{
		"#1=(a)": api.OK, "(#1=(a) #1#)": api.OK, "(#1=(a) #2=(b) #1# . #2#)": api.OK, "#1=(#1#)": api.OK, "#1=#(#2=#(#1# #2#))": api.OK, "(#1=a . #1#)": api.OK,
		"#1#": forms.ErrLabel, "(#1# #1=(a))": forms.ErrLabel, "(#1=(a) #2#)": forms.ErrLabel, "#1=#1#": forms.ErrLabel, "#1=#2=(a)": forms.ErrLabel, "(#1=(a) #2=#1#)": forms.ErrLabel, "(#01#)": api.ErrForm,
		"(#1=(a) #1=(b))": api.ErrTwice, "#1=(#1=(a))": api.ErrTwice, "(#1=a #1=a)": api.ErrTwice,
		"(#1=(a) #1=(b) #2#)": api.ErrTwice, "(#1=(a) #2# #1=(b))": forms.ErrLabel, "(#1=(a) #1=#1#)": api.ErrTwice, "(#2=#2# #1=(a) #1=(b))": forms.ErrLabel, "(#1=(a) #1=(b) #2=#3=a)": api.ErrTwice, "(#2=#3=a #3=b)": forms.ErrLabel,
		"(#1=(a) #1=(b) 01)": api.ErrForm, "(#1# 01)": api.ErrForm, "#1=#1000#": api.ErrForm,
	} {
		if e := forms.Check(read(t, s)); e != want {
			t.Errorf("Check of %s: %v, expected %v", s, e, want)
		}
	}
	var l []api.Form
	for i := range 999 {
		l = append(l, node(api.FormLabel, strconv.Itoa(i), symbol("A")))
	}
	if e := forms.Check(node(api.FormVector, "", l...)); e != api.OK {
		t.Errorf("Check of 999 labels: %v", e)
	}
}
