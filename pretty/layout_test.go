package pretty_test

import (
	"math/rand"
	"slices"
	"strconv"
	"strings"
	"testing"

	"commonform/api"
	"commonform/forms"
	"commonform/pretty"
	"commonform/printer"
	"commonform/reader"
	"commonform/token"
)

func TestStyles(t *testing.T) {
	var l []string
	for _, x := range pretty.Styles() {
		l = append(l, x.Name+" "+strconv.Itoa(x.Args))
	}
	want := "DEFUN 2, DEFMACRO 2, LAMBDA 1, LET 1, LET* 1, FLET 1, LABELS 1, MACROLET 1, SYMBOL-MACROLET 1, WHEN 1, UNLESS 1, DOLIST 1, DOTIMES 1, BLOCK 1, CATCH 1, EVAL-WHEN 1, HANDLER-BIND 1, PROGN 0, UNWIND-PROTECT 1, MULTIPLE-VALUE-BIND 2, DESTRUCTURING-BIND 2, DEFCLASS 2, CASE 1, COND 0, IF 1"
	if got := strings.Join(l, ", "); got != want {
		t.Errorf("Styles = %s", got)
	}
	pretty.Styles()[0].Name = "X"
	if pretty.Styles()[0].Name != "DEFUN" {
		t.Error("results share memory")
	}
}

// shown writes operations: Texts between single quotes, prefixes as <(, suffixes as )>, newlines as L or F, Indents with their number (and @ from here).
func shown(l []pretty.Op) string {
	var words []string
	for _, x := range l {
		switch x.Kind {
		case pretty.Text:
			words = append(words, "'"+x.Text+"'")
		case pretty.Open:
			words = append(words, "<"+x.Text)
		case pretty.Close:
			words = append(words, x.Text+">")
		case pretty.Newline:
			words = append(words, string("LFM!"[x.N]))
		case pretty.Indent:
			word := strconv.Itoa(x.N)
			if x.Flag {
				word += "@"
			}
			words = append(words, word)
		}
	}
	return strings.Join(words, " ")
}

func TestLayout(t *testing.T) {
	o := usual()
	with := func(do func(o *printer.Options)) printer.Options {
		o := usual()
		do(&o)
		return o
	}
	circle := with(func(o *printer.Options) { o.Circle = true })
	hidden := with(func(o *printer.Options) { o.Array = false })
	limited := with(func(o *printer.Options) { o.Length, o.Level = 2, 2 })
	plain := with(func(o *printer.Options) { o.Abbrev = false })
	none := with(func(o *printer.Options) { o.Length = 0 })
	for _, c := range []struct {
		o       printer.Options
		s, want string
	}{
		{o, "a", "'a'"}, {o, "()", "'nil'"}, {o, "\"a b\"", "'\"a b\"'"}, {o, "#*10", "'#*10'"}, {o, "#c(1 2)", "'#C(1 2)'"}, {o, "(a)", "<( 'a' )>"}, {o, "(a b)", "<( 'a' ' ' 0@ 'b' )>"}, {o, "(a b c d)", "<( 'a' ' ' 0@ 'b' ' ' L 'c' ' ' L 'd' )>"}, {o, "(a . b)", "<( 'a' ' ' 0@ '. ' 'b' )>"}, {o, "(a b . c)", "<( 'a' ' ' 0@ 'b' ' ' L '. ' 'c' )>"}, {o, "(:k 1 2)", "<( ':k' ' ' 0@ '1' ' ' L '2' )>"}, {o, "(list 1 2)", "<( 'list' ' ' 0@ '1' ' ' L '2' )>"}, {o, "(q::let a b)", "<( 'q::let' ' ' 0@ 'a' ' ' L 'b' )>"}, {o, "(() a b)", "<( 'nil' ' ' 0@ 'a' ' ' L 'b' )>"},
		{o, "(1 2 3)", "<( '1' ' ' F '2' ' ' F '3' )>"}, {o, "((a) b . c)", "<( <( 'a' )> ' ' F 'b' ' ' F '. ' 'c' )>"}, {o, "(\"s\" a)", "<( '\"s\"' ' ' F 'a' )>"}, {o, "#(a b c)", "<#( 'a' ' ' F 'b' ' ' F 'c' )>"}, {o, "#()", "<#( )>"},
		{o, "(progn)", "<( 'progn' )>"}, {o, "(progn a)", "<( 'progn' ' ' 3 1 L 'a' )>"}, {o, "(progn a b)", "<( 'progn' ' ' 3 1 L 'a' ' ' 1 L 'b' )>"}, {o, "(progn . a)", "<( 'progn' ' ' 3 1 L '. ' 'a' )>"}, {o, "(let a b c)", "<( 'let' ' ' 3 'a' ' ' 1 L 'b' ' ' 1 L 'c' )>"}, {o, "(let a)", "<( 'let' ' ' 3 'a' )>"}, {o, "(let . a)", "<( 'let' ' ' 3 '. ' 'a' )>"}, {o, "(let a . b)", "<( 'let' ' ' 3 'a' ' ' 1 L '. ' 'b' )>"}, {o, "(defun f (x) a b)", "<( 'defun' ' ' 3 'f' ' ' F <( 'x' )> ' ' 1 L 'a' ' ' 1 L 'b' )>"}, {o, "(defun f . x)", "<( 'defun' ' ' 3 'f' ' ' F '. ' 'x' )>"}, {o, "(defun f)", "<( 'defun' ' ' 3 'f' )>"},
		{o, "'a", "''' 'a'"}, {o, "'(1 2)", "''' <( '1' ' ' F '2' )>"}, {o, "#'a", "'#'' 'a'"}, {o, "`(a ,b ,@c)", "'`' <( 'a' ' ' 0@ ',' 'b' ' ' L ',@' 'c' )>"}, {o, "``(,@(b ,c) ,(b ,c))", "'`' '`' <( ',@' <( 'b' ' ' 0@ ',' 'c' )> ' ' F ',' <( 'b' ' ' 0@ ',' 'c' )> )>"}, {o, "`(,@(reader::comma a))", "'`' <( ',@' <( 'reader::comma' ' ' 0@ 'a' )> )>"}, {o, "`, @a", "'`' ', ' '@a'"}, {o, "`,'@a", "'`' ',' ''' '@a'"}, {o, "(reader::comma a)", "<( 'reader::comma' ' ' 0@ 'a' )>"}, {o, "`,(reader::splice a)", "'`' ',' <( 'reader::splice' ' ' 0@ 'a' )>"}, {plain, "'a", "<( 'quote' ' ' 0@ 'a' )>"},
		{o, "#2a((1 2) (3 4))", "<#2A( <( '1' ' ' F '2' )> ' ' F <( '3' ' ' F '4' )> )>"}, {o, "#0a x", "'#0A' 'x'"}, {o, "#0a(1)", "'#0A' <( '1' )>"}, {o, "#3a(() ())", "<#3A( <( )> ' ' F <( )> )>"}, {o, "#2a()", "<#2A( )>"},
		{circle, "#1=(a #1#)", "'#0=' <( 'a' ' ' 0@ '#0#' )>"}, {circle, "(a . #1=(b . #1#))", "<( 'a' ' ' 0@ '. ' '#0=' <( 'b' ' ' 0@ '. ' '#0#' )> )>"}, {circle, "(#1=let #1#)", "<( 'let' ' ' 3 'let' )>"}, {o, "(#1=(1) #1#)", "<( <( '1' )> ' ' F <( '1' )> )>"}, {circle, "(#1=(1) #1#)", "<( '#0=' <( '1' )> ' ' F '#0#' )>"},
		{hidden, "(#(1) #*1 #2a((1)) #0a 1)", "<( '#<VECTOR>' ' ' F '#<BIT-VECTOR>' ' ' F '#<ARRAY>' ' ' F '#<ARRAY>' )>"}, {limited, "(a b c)", "<( 'a' ' ' 0@ 'b' ' ' L '...' )>"}, {limited, "(a b . c)", "<( 'a' ' ' 0@ 'b' ' ' L '. ' 'c' )>"}, {limited, "(a b c . d)", "<( 'a' ' ' 0@ 'b' ' ' L '...' )>"}, {limited, "(a (b (c)))", "<( 'a' ' ' 0@ <( 'b' ' ' 0@ '#' )> )>"}, {limited, "(a (b #(c)) d)", "<( 'a' ' ' 0@ <( 'b' ' ' 0@ '#' )> ' ' L '...' )>"}, {limited, "(a (#2a((1)) b))", "<( 'a' ' ' 0@ <( '#2A#' ' ' F 'b' )> )>"}, {limited, "#3a(((1)))", "<#3A( <( '#' )> )>"}, {limited, "#(1 2 3)", "<#( '1' ' ' F '2' ' ' F '...' )>"}, {limited, "(defun f x)", "<( 'defun' ' ' 3 'f' ' ' F '...' )>"}, {none, "(a b)", "<( '...' )>"}, {none, "(a . b)", "<( '...' )>"}, {none, "#()", "<#( )>"}, {none, "(progn a)", "<( '...' )>"},
	} {
		f := read(t, c.s)
		l, e := pretty.Layout(c.o, pretty.Styles(), f)
		if got := shown(l); got != c.want || e != api.OK {
			t.Errorf("Layout(%s) = %s, %v; expected %s", c.s, got, e, c.want)
		}
		flat, d := pretty.Flat(l)
		if text, e := printer.Print(c.o, f); flat != text || d != e {
			t.Errorf("Flat of Layout(%s) = %q, %v; expected %q, %v", c.s, flat, d, text, e)
		}
	}
}

func TestStylesOfOthers(t *testing.T) {
	f := read(t, "(list a b c)")
	for _, c := range []struct {
		l    []pretty.Style
		want string
	}{{nil, "<( 'list' ' ' 0@ 'a' ' ' L 'b' ' ' L 'c' )>"}, {[]pretty.Style{{Name: "LIST", Args: 10}}, "<( 'list' ' ' 3 'a' ' ' F 'b' ' ' F 'c' )>"}, {[]pretty.Style{{Name: "LIST", Args: 3}}, "<( 'list' ' ' 3 'a' ' ' F 'b' ' ' F 'c' )>"}, {[]pretty.Style{{Name: "LIST", Args: 2}, {Name: "LIST", Args: 0}}, "<( 'list' ' ' 3 'a' ' ' F 'b' ' ' 1 L 'c' )>"}, {[]pretty.Style{{Name: "list"}, {Name: "LIST"}}, "<( 'list' ' ' 3 1 L 'a' ' ' 1 L 'b' ' ' 1 L 'c' )>"}} {
		if l, e := pretty.Layout(usual(), c.l, f); shown(l) != c.want || e != api.OK {
			t.Errorf("Layout with %v = %s, %v; expected %s", c.l, shown(l), e, c.want)
		}
	}
}

func node(kind int, text string, kids ...api.Form) api.Form {
	return api.Form{Kind: kind, Text: text, Kids: kids}
}

func nested(n int, f api.Form) api.Form {
	for range n {
		f = node(api.FormVector, "", f)
	}
	return f
}

func TestLayoutErrors(t *testing.T) {
	o := usual()
	many := make([]pretty.Style, 100)
	wrong := []pretty.Style{{}, {Args: 11}}
	long := printer.Options{Table: token.Table{Entries: make([]token.Entry, 65)}}
	row := func(n int, f api.Form) api.Form {
		var l []api.Form
		for range n {
			l = append(l, f)
		}
		return node(api.FormVector, "", l...)
	}
	array := node(api.FormArray, "1 1 1 1 1 1 1", forms.Nil())
	for i, c := range []struct {
		o      printer.Options
		styles []pretty.Style
		f      api.Form
		want   api.Errno
	}{
		{o, many, forms.Nil(), api.OK}, {long, append(many, pretty.Style{}), api.Form{}, api.ErrSize}, {printer.Options{}, append(many, pretty.Style{}), api.Form{}, api.ErrArg}, {o, append(many, pretty.Style{Args: 11}), api.Form{}, api.ErrSize}, {o, wrong, node(api.FormRef, "1"), api.ErrArg}, {o, []pretty.Style{{Args: -1}}, node(api.FormRef, "1"), api.ErrArg},
		{o, nil, api.Form{}, api.ErrForm}, {o, nil, node(api.FormRef, "1"), forms.ErrLabel}, {o, nil, read(t, "#1=(#1#)"), forms.ErrCircle}, {o, nil, row(1998, node(api.FormString, strings.Repeat("a", 60))), api.ErrLarge}, {printer.Readably(o), nil, node(api.FormArray, "0 1"), printer.ErrReadable},
		{o, nil, row(1400, node(api.FormInt, "1")), api.ErrSize}, {o, nil, row(1300, node(api.FormInt, "1")), api.OK}, {o, nil, node(api.FormString, strings.Repeat("a", 19998)), api.OK}, {o, nil, node(api.FormString, strings.Repeat("a", 19999)), api.ErrSize}, {o, nil, nested(99, forms.Nil()), api.OK}, {o, nil, nested(98, array), pretty.ErrBlock}, {o, nil, nested(93, array), api.OK}, {o, nil, nested(94, array), pretty.ErrBlock}, {o, nil, node(api.FormArray, "2000 10 0"), api.ErrSize},
	} {
		l, e := pretty.Layout(c.o, c.styles, c.f)
		if e != c.want || e != api.OK && len(l) > 0 {
			t.Errorf("Layout of %d: %d operations, %v; expected %v", i, len(l), e, c.want)
		}
	}
	for _, c := range []struct {
		o            printer.Options
		f            api.Form
		width, miser int
		want         api.Errno
	}{{printer.Options{}, forms.Nil(), 0, 0, api.ErrArg}, {long, forms.Nil(), 0, 0, api.ErrSize}, {o, api.Form{}, 0, -1, api.ErrForm}, {o, forms.Nil(), 0, 0, api.ErrArg}, {o, forms.Nil(), 201, 0, api.ErrArg}, {o, forms.Nil(), 80, 201, api.ErrArg}, {o, row(1400, forms.Nil()), 0, 0, api.ErrSize}, {o, nested(98, array), 0, 0, pretty.ErrBlock}} {
		if s, e := pretty.Print(c.o, c.f, c.width, c.miser); s != "" || e != c.want {
			t.Errorf("Print(%.30v, %d, %d) = %q, %v; expected %v", c.f, c.width, c.miser, s, e, c.want)
		}
	}
}

func TestPrint(t *testing.T) {
	for _, c := range []struct {
		s            string
		width, miser int
		want         []string
	}{
		{"(defun f (x) (list x x))", 20, 0, []string{"(defun f (x)", "  (list x x))"}}, {"(defun f (x) (list x x))", 24, 0, []string{"(defun f (x) (list x x))"}}, {"(foo a b)", 7, 0, []string{"(foo a", "     b)"}}, {"(foo a b)", 9, 0, []string{"(foo a b)"}},
		{"(let ((a 1) (b 2)) (foo a b) (bar b))", 20, 0, []string{"(let ((a 1) (b 2))", "  (foo a b)", "  (bar b))"}}, {"(let ((a 1) (b 2)) (foo a b) (bar b))", 15, 0, []string{"(let ((a 1)", "      (b 2))", "  (foo a b)", "  (bar b))"}}, {"(cond ((a b) c) (d e))", 15, 0, []string{"(cond", "  ((a b) c)", "  (d e))"}}, {"(1 2 3 4 5 6)", 7, 0, []string{"(1 2 3", " 4 5 6)"}}, {"#(10 20 30 40)", 8, 0, []string{"#(10 20", "  30 40)"}}, {"(defun name (x) x)", 12, 0, []string{"(defun name", "    (x)", "  x)"}}, {"(foo aaa bbb)", 8, 8, []string{"(foo aaa", " bbb)"}}, {"'(foo aaa bbb)", 9, 0, []string{"'(foo aaa", "      bbb)"}}, {"(if (a b c) (d e) (f g))", 13, 0, []string{"(if (a b c)", "  (d e)", "  (f g))"}},
	} {
		if got, e := pretty.Print(usual(), read(t, c.s), c.width, c.miser); got != strings.Join(c.want, "\n") || e != api.OK {
			t.Errorf("Print(%s, %d, %d) = %q, %v; expected %q", c.s, c.width, c.miser, got, e, c.want)
		}
	}
}

// randomText returns the text of a form.
func randomText(r *rand.Rand, depth int) string {
	some := func() string {
		var l []string
		for range r.Intn(5) {
			l = append(l, randomText(r, depth+1))
		}
		return strings.Join(l, " ")
	}
	if depth < 5 {
		switch r.Intn(10) {
		case 0, 1, 2:
			return "(" + []string{"foo", "let", "defun", "progn", "list", "a", "when"}[r.Intn(7)] + " " + some() + ")"
		case 3:
			return "(" + some() + ")"
		case 4:
			return "(a " + some() + " . " + randomText(r, 9) + ")"
		case 5:
			return "#(" + some() + ")"
		case 6:
			return []string{"'", "#'", "`"}[r.Intn(3)] + randomText(r, depth+1)
		case 7:
			return "`(a ,x ,@y " + some() + ")"
		}
	}
	return []string{"a", "some-symbol", "12345", "1.5", "\"a string; \"", "\"line\nfeed \"", "#\\Space", "#\\(", "|a b |", ":k", "q::x", "#*1011", "#2a((1 2) (3 4))", "#c(1 2)", "nil", "#0a x", "#:g"}[r.Intn(17)]
}

// P9.6
func TestLayoutOfForms(t *testing.T) {
	r := rand.New(rand.NewSource(96))
	for range 3000 {
		s := randomText(r, 0)
		if r.Intn(3) == 0 {
			s = "(#1=(x) #1# #2=" + s + " #2#)"
		}
		f := read(t, s)
		o := usual()
		o.Circle, o.Abbrev = r.Intn(2) == 0, r.Intn(3) > 0
		if r.Intn(3) == 0 {
			o.Length, o.Level = r.Intn(5)-1, r.Intn(5)-1
		}
		text, e := printer.Print(o, f)
		l, d := pretty.Layout(o, pretty.Styles(), f)
		flat, c := pretty.Flat(l)
		if e != api.OK || d != api.OK || c != api.OK || flat != text {
			t.Fatalf("Flat of Layout(%s) = %q, %v; printed %q, %v", s, flat, d, text, e)
		}
		width, miser := 1+r.Intn(60), r.Intn(30)
		got, e := pretty.Print(o, f, width, miser)
		want, d := pretty.Render(l, width, miser)
		if got != want || e != d || got != rendered(l, width, miser) {
			t.Fatalf("Print(%s, %d, %d) = %q, %v; expected %q, %v", s, width, miser, got, e, want, d)
		}
		if o.Length >= 0 || o.Level >= 0 || len(got) > api.MaxSource || len(text) > api.MaxSource {
			continue
		}
		a, _, e := reader.One(reader.Standard("P"), got)
		b, _, d := reader.One(reader.Standard("P"), text)
		if e != api.OK || d != api.OK || !forms.Equal(a.Form, b.Form) {
			t.Fatalf("Print(%s, %d, %d) = %q is not read as %q: %v, %v", s, width, miser, got, text, e, d)
		}
	}
}

func TestMemoryOfLayout(t *testing.T) {
	f := read(t, "(let ((a 1)) a)")
	styles := pretty.Styles()
	before := slices.Clone(styles)
	l, _ := pretty.Layout(usual(), styles, f)
	first := shown(l)
	clear(l[:cap(l)])
	again, _ := pretty.Layout(usual(), styles, f)
	if shown(again) != first || !slices.Equal(styles, before) || !forms.Equal(f, read(t, "(let ((a 1)) a)")) {
		t.Error("Layout shares memory, or changes an argument")
	}
}
