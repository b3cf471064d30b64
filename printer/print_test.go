package printer_test

import (
	"math/rand"
	"strconv"
	"strings"
	"testing"

	"commonform/api"
	"commonform/forms"
	"commonform/printer"
	"commonform/reader"
)

// change returns the usual options with something changed.
func change(do func(o *printer.Options)) printer.Options {
	o := usual()
	do(&o)
	return o
}

func TestPrint(t *testing.T) {
	o := usual()
	circle := change(func(o *printer.Options) { o.Circle = true })
	plain := change(func(o *printer.Options) { o.Abbrev = false })
	bare := change(func(o *printer.Options) { o.Escape = false })
	hidden := change(func(o *printer.Options) { o.Array = false })
	hex := change(func(o *printer.Options) { o.Base, o.Radix = 16, true })
	ten := change(func(o *printer.Options) { o.Radix, o.Double = true, true })
	for _, c := range []struct {
		o       printer.Options
		s, want string
	}{
		{o, "(a b)", "(a b)"}, {o, "(a . b)", "(a . b)"}, {o, "()", "nil"}, {o, "(())", "(nil)"}, {o, "(a () . nil)", "(a nil)"}, {o, "((a) (b . c))", "((a) (b . c))"}, {o, "(a . #(b))", "(a . #(b))"}, {o, "#()", "#()"}, {o, "#(1 #(2) (3))", "#(1 #(2) (3))"}, {o, "#*0110", "#*0110"}, {o, "#*", "#*"}, {o, "(\"a\\\"b\" #\\a #\\Space)", "(\"a\\\"b\" #\\a #\\Space)"}, {bare, "(\"a\\\"b\" #\\a #\\Space |x Y|)", "(a\"b a   x y)"},
		{o, "(-255 1/2 1.5 1d0 #c(1 2))", "(-255 1/2 1.5 1.0d0 #C(1 2))"}, {hex, "(-255 1/2 1.5 #c(10 255))", "(#x-FF #x1/2 1.5 #C(#xA #xFF))"}, {ten, "(5 1/2 1.5 1.5d0)", "(5. #10r1/2 1.5f0 1.5)"},
		{o, "'x", "'x"}, {o, "(quote x y)", "(quote x y)"}, {o, "(quote)", "(quote)"}, {o, "(quote . x)", "(quote . x)"}, {o, "(quote x . y)", "(quote x . y)"}, {o, "#'f", "#'f"}, {o, "''x", "''x"}, {o, "'(a 'b)", "'(a 'b)"}, {o, "(a quote b)", "(a quote b)"}, {plain, "'x", "(quote x)"}, {plain, "#'x", "(function x)"}, {plain, "`,x", "(reader::backquote (reader::comma x))"}, {o, "(p::|quote| x)", "(|quote| x)"},
		{o, "`(a ,b ,@c)", "`(a ,b ,@c)"}, {o, "`,@x", "`,@x"}, {o, "``,,x", "``,,x"}, {o, "``(,@(b ,c))", "``(,@(b ,c))"}, {o, "`(,@(reader::comma x))", "`(,@(reader::comma x))"}, {o, "(reader::comma x)", "(reader::comma x)"}, {o, "(reader::splice x)", "(reader::splice x)"}, {o, "`(,(reader::comma x))", "`(,(reader::comma x))"}, {o, "`,`,x", "`,`,x"}, {o, "(`a (reader::comma b))", "(`a (reader::comma b))"}, {o, "`(a . ,b)", "`(a reader::comma b)"}, {o, "`#(,a)", "`#(,a)"}, {o, "`, @b", "`, @b"}, {o, "`,|@|", "`, @"}, {o, "`,|@b c|", "`,|@b c|"}, {o, "`,@ @b", "`,@@b"}, {o, "`(reader::comma a b)", "`(reader::comma a b)"}, {o, "'`,a", "'`,a"}, {o, "`',a", "`',a"}, {bare, "`,\"@x\"", "`, @x"}, {bare, "`,#\\@", "`, @"}, {o, "`,\"@x\"", "`,\"@x\""},
		{o, "#2a((1 2) (3 4))", "#2A((1 2) (3 4))"}, {o, "#0a x", "#0Ax"}, {o, "#0a(x)", "#0A(x)"}, {o, "#2a()", "#2A()"}, {o, "#3a(() ())", "#3A(() ())"}, {o, "#3a(((1) (2)))", "#3A(((1) (2)))"}, {hidden, "(#2a((1)) #(1) #*1 \"a\" #0a 1)", "(#<ARRAY> #<VECTOR> #<BIT-VECTOR> \"a\" #<ARRAY>)"},
		{circle, "#5=(a . #5#)", "#0=(a . #0#)"}, {circle, "(#7=(a) #3=\"x\" #3# . #7#)", "(#0=(a) #1=\"x\" #1# . #0#)"}, {circle, "(#1=a #1#)", "(a a)"}, {circle, "#1=(a)", "(a)"}, {circle, "(a . #1=(b c))", "(a b c)"}, {circle, "(a . #1=(b #1#))", "(a . #0=(b #0#))"}, {circle, "'#1=(#1#)", "'#0=(#0#)"}, {circle, "#1='#1#", "#0='#0#"}, {circle, "#1=#2a((#1#))", "#0=#2A((#0#))"},
		{o, "(#7=(a) . #7#)", "((a) a)"}, {o, "(#1=\"x\" #1#)", "(\"x\" \"x\")"}, {o, "(quote . #1=(x))", "'x"}, {circle, "(#1=(x) (quote . #1#))", "(#0=(x) (quote . #0#))"},
	} {
		if got, e := printer.Print(c.o, read(t, c.s)); got != c.want || e != api.OK {
			t.Errorf("Print(%s) = %s, %v; expected %s", c.s, got, e, c.want)
		}
	}
	f := node(api.FormArray, "0 2")
	if got, e := printer.Print(o, f); got != "#2A()" || e != api.OK {
		t.Errorf("Print of an array without rows = %s, %v", got, e)
	}
}

// P8.4
func TestLimits(t *testing.T) {
	limits := func(length, level int) printer.Options {
		return change(func(o *printer.Options) { o.Length, o.Level, o.Circle = length, level, true })
	}
	deep := "(1 (2 (3)) 4 5)"
	for _, c := range []struct {
		length, level int
		s, want       string
	}{
		{-1, 2, deep, "(1 (2 #) 4 5)"}, {2, -1, deep, "(1 (2 (3)) ...)"}, {0, -1, deep, "(...)"}, {-1, 0, deep, "#"}, {-1, 1, deep, "(1 # 4 5)"}, {1, 1, deep, "(1 ...)"}, {4, 3, deep, deep}, {2, 2, deep, "(1 (2 #) ...)"}, {0, 0, deep, "#"}, {-1, 0, "a", "a"}, {0, 0, "\"abc\"", "\"abc\""}, {0, 0, "#*10", "#*10"}, {0, 0, "()", "nil"},
		{2, -1, "(a b . c)", "(a b . c)"}, {1, -1, "(a b . c)", "(a ...)"}, {1, -1, "(a . b)", "(a . b)"}, {0, -1, "(a . b)", "(...)"}, {2, -1, "(a b c . d)", "(a b ...)"}, {-1, 1, "(a . #(b))", "(a . #)"}, {1, -1, "(a . #(b c))", "(a . #(b ...))"}, {-1, 1, "(a . #1=(b . #1#))", "(a . #0=#)"}, {3, -1, "(a b c)", "(a b c)"},
		{0, -1, "#(a)", "#(...)"}, {0, -1, "#()", "#()"}, {-1, 0, "#()", "#"}, {2, -1, "#(a b c)", "#(a b ...)"}, {-1, 1, "#((a))", "#(#)"},
		{-1, 0, "''x", "''x"}, {-1, 0, "'(x)", "'#"}, {-1, 1, "'(x)", "'(x)"}, {-1, 1, "('(x))", "('#)"}, {0, -1, "'x", "'x"}, {-1, 1, "(`(,x))", "(`#)"}, {-1, 0, "#1=(#1#)", "#0=#"},
		{-1, 0, "#2a((1 2) (3 4))", "#2A#"}, {-1, 1, "#2a((1 2) (3 4))", "#2A(# #)"}, {1, -1, "#2a((1 2) (3 4))", "#2A((1 ...) ...)"}, {-1, 2, "#2a((1 (2)) (3 4))", "#2A((1 #) (3 4))"}, {0, -1, "#2a((1))", "#2A(...)"}, {-1, 0, "#0a(x)", "#0A#"}, {-1, 1, "#0a(x (y))", "#0A(x #)"}, {0, -1, "#0a x", "#0Ax"},
	} {
		if got, e := printer.Print(limits(c.length, c.level), read(t, c.s)); got != c.want || e != api.OK {
			t.Errorf("Print(%s) with %d and %d = %s, %v; expected %s", c.s, c.length, c.level, got, e, c.want)
		}
	}
	randomForms(1500, func(r *rand.Rand, f api.Form) {
		o := randomOptions(r)
		o.Circle = true
		want, e := printer.Print(o, f)
		o.Length, o.Level = 20, 20
		got, d := printer.Print(o, f)
		if got != want || d != e {
			t.Fatalf("Print(%v) = %q, %v; without limits %q, %v", f, got, d, want, e)
		}
		isList := f.Kind == api.FormCons && f.Kids[0].Home != "COMMON-LISP" && f.Kids[0].Home != "READER"
		o.Level = 0
		if got, d := printer.Print(o, f); isList && (got != "#" || d != api.OK) {
			t.Fatalf("Print(%v) in the level 0 = %q, %v", f, got, d)
		}
		o.Level, o.Length = -1, 0
		if got, d := printer.Print(o, f); isList && (got != "(...)" || d != api.OK) {
			t.Fatalf("Print(%v) with the length 0 = %q, %v", f, got, d)
		}
	})
}

func TestPrintErrors(t *testing.T) {
	o := usual()
	readable := printer.Readably(o)
	hidden := readable
	hidden.Array = false
	loose := readable
	loose.Circle = false
	with := func(pairs string) printer.Options {
		o := readable
		o.Table = table(t, pairs)
		return o
	}
	wide := node(api.FormVector, "", manyOf(1998, node(api.FormString, strings.Repeat("a", 60)))...)
	for i, c := range []struct {
		o    printer.Options
		f    api.Form
		want api.Errno
	}{
		{o, api.Form{}, api.ErrForm}, {o, node(api.FormRef, "1"), forms.ErrLabel}, {o, node(api.FormVector, "", manyOf(2000, forms.Nil())...), api.ErrSize}, {with("(2"), api.Form{}, api.ErrForm}, {o, node(api.FormVector, "", read(t, "#1=a"), read(t, "#1=b")), api.ErrTwice},
		{with("(2"), forms.Nil(), printer.ErrReadable}, {with(" 2"), forms.Nil(), printer.ErrReadable}, {with("#3"), forms.Nil(), printer.ErrReadable}, {with("a1"), forms.Nil(), printer.ErrReadable}, {with("Z6"), forms.Nil(), printer.ErrReadable}, {with("A6"), forms.Nil(), printer.ErrReadable}, {with("z0"), forms.Nil(), printer.ErrReadable}, {with("05"), forms.Nil(), printer.ErrReadable}, {with("90"), forms.Nil(), printer.ErrReadable}, {with(".3"), forms.Nil(), printer.ErrReadable}, {with(":4"), forms.Nil(), printer.ErrReadable}, {with("+0"), forms.Nil(), printer.ErrReadable}, {with("-1"), forms.Nil(), printer.ErrReadable}, {with("/1"), forms.Nil(), printer.ErrReadable}, {with("\n2"), forms.Nil(), printer.ErrReadable}, {with("`2"), forms.Nil(), printer.ErrReadable},
		{with("|2\\2!6$5@1é0=3"), forms.Symbol("P", "X"), api.OK}, {change(func(o *printer.Options) { o.Table = table(t, "(2") }), forms.Nil(), api.OK},
		{o, read(t, "#1=(#1#)"), forms.ErrCircle}, {loose, read(t, "#1=(#1#)"), forms.ErrCircle}, {change(func(o *printer.Options) { o.Readable, o.Table = true, table(t, "(2") }), read(t, "#1=(#1#)"), printer.ErrReadable},
		{readable, node(api.FormArray, "0 2"), printer.ErrReadable}, {readable, node(api.FormArray, "2 0 3"), printer.ErrReadable}, {readable, node(api.FormArray, "2 0 0"), api.OK}, {readable, node(api.FormArray, "2 0"), api.OK}, {readable, node(api.FormArray, "0 0 0 1"), printer.ErrReadable}, {o, node(api.FormArray, "0 2"), api.OK}, {readable, node(api.FormVector, "", node(api.FormArray, "0 1")), printer.ErrReadable},
		{hidden, node(api.FormVector, ""), printer.ErrReadable}, {hidden, node(api.FormBits, "1"), printer.ErrReadable}, {hidden, read(t, "#0a x"), printer.ErrReadable}, {hidden, read(t, "(a #(b))"), printer.ErrReadable}, {hidden, read(t, "(a \"b\")"), api.OK},
		{o, forms.Symbol("Q", ""), api.ErrArg}, {o, read(t, "(a q::b)"), api.OK}, {o, node(api.FormVector, "", forms.Symbol("Q", ""), node(api.FormInt, strings.Repeat("1", 20001))), api.ErrArg}, {o, node(api.FormVector, "", node(api.FormInt, strings.Repeat("1", 20001)), forms.Symbol("Q", "")), api.ErrLarge}, {o, node(api.FormRatio, "1000000000000000000/2"), api.ErrForm}, {o, node(api.FormSingle, "7f800000"), api.ErrForm}, {with("|2"), read(t, "(a . |b|)"), api.ErrNone}, {with("\\2"), node(api.FormString, "\""), printer.ErrReadable},
		{o, wide, api.ErrLarge}, {o, node(api.FormVector, "", node(api.FormString, strings.Repeat("a", 100000)), forms.Symbol("Q", "")), api.ErrLarge}, {o, node(api.FormVector, "", forms.Symbol("Q", ""), node(api.FormString, strings.Repeat("a", 100000))), api.ErrArg}, {o, node(api.FormString, strings.Repeat("a", 99998)), api.OK}, {o, node(api.FormString, strings.Repeat("a", 99999)), api.ErrLarge}, {o, node(api.FormVector, "", node(api.FormString, strings.Repeat("a", 99995))), api.OK}, {o, node(api.FormVector, "", node(api.FormString, strings.Repeat("a", 99996))), api.ErrLarge}, {o, node(api.FormArray, "2000 2000 0"), api.ErrLarge}, {o, node(api.FormArray, "2000 2000 2000 2000 2000 2000 0"), api.ErrLarge}, {o, node(api.FormArray, "0 2000 2000 2000 2000 2000 2000"), api.OK},
	} {
		got, e := printer.Print(c.o, c.f)
		if e != c.want || e != api.OK && got != "" || len(got) > 100000 {
			t.Errorf("Print of %d = %.30q, %v; expected %v", i, got, e, c.want)
		}
	}
	// References to a complex number are replaced by it.
	l := manyOf(1900, node(api.FormRef, "1"))
	l[0] = node(api.FormLabel, "1", read(t, "#c(1 2)"))
	for _, x := range []bool{true, false} {
		if _, e := printer.Print(change(func(o *printer.Options) { o.Circle = x }), node(api.FormVector, "", l...)); e != api.ErrSize {
			t.Errorf("Print of many references to a complex number: %v", e)
		}
	}
}

func manyOf(n int, f api.Form) []api.Form {
	var l []api.Form
	for range n {
		l = append(l, f)
	}
	return l
}

func TestText(t *testing.T) {
	for _, c := range []struct {
		f    api.Form
		bare bool
		want string
	}{{forms.Symbol("COMMON-LISP", "CAR"), false, "car"}, {forms.Symbol("COMMON-LISP-USER", "x"), false, "|x|"}, {forms.Symbol("P", "X"), false, "p::x"}, {forms.Symbol("P", "X"), true, "x"}, {node(api.FormString, "a\"b"), true, "a\"b"}, {node(api.FormString, "a\"b"), false, `"a\"b"`}, {read(t, "#3=(1 . #3#)"), false, "#0=(1 . #0#)"}, {read(t, "'(1.5 #\\a)"), false, "'(1.5 #\\a)"}} {
		if got, e := printer.Text(c.f, !c.bare); got != c.want || e != api.OK {
			t.Errorf("Text(%v, %v) = %q, %v; expected %q", c.f, !c.bare, got, e, c.want)
		}
	}
	if got, e := printer.Text(api.Form{}, true); got != "" || e != api.ErrForm {
		t.Errorf("Text of no form = %q, %v", got, e)
	}
}

func TestLines(t *testing.T) {
	o := usual()
	one := node(api.FormInt, "1")
	long := node(api.FormString, strings.Repeat("a", 49997))
	for _, c := range []struct {
		l    []api.Form
		want string
		e    api.Errno
	}{{nil, "", api.OK}, {[]api.Form{one, read(t, "(a)")}, "1\n(a)\n", api.OK}, {[]api.Form{node(api.FormString, "\n")}, "\"\n\"\n", api.OK}, {[]api.Form{one, {}, forms.Symbol("Q", "")}, "", api.ErrForm}, {[]api.Form{one, forms.Symbol("Q", ""), {}}, "", api.ErrArg}, {[]api.Form{long, long}, "\"" + long.Text + "\"\n\"" + long.Text + "\"\n", api.OK}, {[]api.Form{long, one, long}, "", api.ErrLarge}, {[]api.Form{long, long, long, {}}, "", api.ErrForm}} {
		if got, e := printer.Lines(o, c.l); got != c.want || e != c.e {
			t.Errorf("Lines = %.20q, %v; expected %.20q, %v", got, e, c.want, c.e)
		}
	}
}

// hasDeepText reports whether the text of a form is nested deeper than the form.
func hasDeepText(f api.Form) bool {
	if f.Kind == api.FormArray || f.Kind == api.FormComplex {
		return true
	}
	for _, k := range f.Kids {
		if hasDeepText(k) {
			return true
		}
	}
	return false
}

// P8.2 and P7
func TestThereAndBack(t *testing.T) {
	read, failed := 0, map[api.Errno]int{}
	randomForms(20000, func(r *rand.Rand, f api.Form) {
		o := printer.Readably(randomOptions(r))
		text, e := printer.Print(o, f)
		if e != api.OK {
			failed[e]++
			return
		}
		x := reader.Options{Table: o.Table, Base: o.Base, Double: o.Double, Package: o.Package}
		for _, behind := range []string{"", "\n", " ;x", "#|x|#"} {
			if behind == "#|x|#" && !strings.HasSuffix(text, ")") {
				continue
			}
			back, at, d := reader.One(x, text+behind)
			if d == api.ErrSize && (len(text+behind) > api.MaxSource || hasDeepText(f)) {
				return
			}
			if same, s := forms.Same(f, back.Form); d != api.OK || !same || s != api.OK {
				t.Fatalf("%v is printed as %q, and read as %v: %d, %v", f, text, back.Form, at, d)
			}
		}
		read++
	})
	if read < 5000 || failed[api.ErrNone] == 0 || failed[printer.ErrReadable] == 0 || failed[api.ErrArg] == 0 || len(failed) > 3 {
		t.Errorf("%d forms were read, these failed: %v", read, failed)
	}
}

// P8.3
func TestSharing(t *testing.T) {
	count := 0
	randomForms(3000, func(r *rand.Rand, f api.Form) {
		o := randomOptions(r)
		o.Circle = false
		text, e := printer.Print(o, f)
		plain, d := forms.Plain(f)
		if d != api.OK {
			if e != d || text != "" {
				t.Fatalf("Print(%v) = %q, %v; expected %v", f, text, e, d)
			}
			return
		}
		count++
		if other, d := printer.Print(o, plain); other != text || d != e {
			t.Fatalf("Print(%v) = %q, %v; of its Plain %q, %v", f, text, e, other, d)
		}
		o.Circle = true
		renamed := rename(f)
		text, e = printer.Print(o, f)
		if other, d := printer.Print(o, renamed); other != text || d != e {
			t.Fatalf("Print(%v) = %q, %v; with other labels %q, %v", f, text, e, other, d)
		}
		normal, _ := forms.Normal(f)
		if other, d := printer.Print(o, normal); other != text || d != e {
			t.Fatalf("Print(%v) = %q, %v; of its Normal %q, %v", f, text, e, other, d)
		}
	})
	if count < 1000 {
		t.Errorf("%d forms without circles", count)
	}
}

// rename returns a form with other labels.
func rename(f api.Form) api.Form {
	x := f
	if f.Kind == api.FormLabel || f.Kind == api.FormRef {
		n, _ := strconv.Atoi(f.Text)
		x.Text = strconv.Itoa(999 - n)
	}
	x.Kids = nil
	for _, k := range f.Kids {
		x.Kids = append(x.Kids, rename(k))
	}
	return x
}

// P8.5
func TestEscapes(t *testing.T) {
	r := rand.New(rand.NewSource(85))
	for _, s := range texts {
		o := randomOptions(r)
		o.Escape = false
		if got, e := printer.Print(o, node(api.FormString, s)); got != s || e != api.OK {
			t.Errorf("Print of the string %q = %q, %v", s, got, e)
		}
	}
	for _, s := range chars {
		o := randomOptions(r)
		o.Escape = false
		if got, e := printer.Print(o, node(api.FormChar, s)); got != s || e != api.OK {
			t.Errorf("Print of the character %q = %q, %v", s, got, e)
		}
	}
}

// P8.6
func TestElements(t *testing.T) {
	count := 0
	randomForms(3000, func(r *rand.Rand, f api.Form) {
		plain, e := forms.Plain(f)
		items, ok := forms.Items(plain)
		if e != api.OK || !ok || len(items) == 0 || items[0].Home == "COMMON-LISP" || items[0].Home == "READER" {
			return
		}
		o := randomOptions(r)
		var l []string
		for _, x := range items {
			text, e := printer.Print(o, x)
			if e != api.OK {
				return
			}
			l = append(l, text)
		}
		want := "(" + strings.Join(l, " ") + ")"
		if got, e := printer.Print(o, plain); got != want || e != api.OK {
			t.Fatalf("Print(%v) = %q, %v; expected %q", plain, got, e, want)
		}
		count++
	})
	if count < 200 {
		t.Errorf("%d lists", count)
	}
}

// P8.1 and P1: any tree has a text or an error, and stays as it is.
func TestAnyTree(t *testing.T) {
	r := rand.New(rand.NewSource(81))
	var tree func(depth int) api.Form
	tree = func(depth int) api.Form {
		f := api.Form{Kind: r.Intn(17) - 1, Text: pick(r, append(symbols, "1", "2 1", "3f800000")), Home: pick(r, homes)}
		for range r.Intn(4) {
			if depth < 4 {
				f.Kids = append(f.Kids, tree(depth+1))
			}
		}
		return f
	}
	for range 20000 {
		f := tree(0)
		o := randomOptions(r)
		o.Escape, o.Circle, o.Readable, o.Array = r.Intn(2) == 0, r.Intn(2) == 0, r.Intn(2) == 0, r.Intn(2) == 0
		o.Length, o.Level = r.Intn(4)-1, r.Intn(4)-1
		want := forms.Check(f)
		got, e := printer.Print(o, f)
		if want != api.OK && e != want || e != api.OK && got != "" {
			t.Fatalf("Print(%v) = %q, %v; expected %v", f, got, e, want)
		}
		if got, e := printer.Symbol(o, f); e != api.OK && got != "" || f.Kind != api.FormSymbol && e != api.ErrType {
			t.Fatalf("Symbol(%v) = %q, %v", f, got, e)
		}
	}
}
