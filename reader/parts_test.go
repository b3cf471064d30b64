package reader_test

import (
	"fmt"
	"math"
	"math/rand"
	"strconv"
	"strings"
	"testing"
	"unicode/utf8"

	"commonform/api"
	"commonform/forms"
	"commonform/reader"
	"commonform/token"
)

var (
	longText = strings.Repeat("a", api.MaxSource+1)
	longName = strings.Repeat("a", 101)
)

func TestOptions(t *testing.T) {
	o := reader.Standard("PACK")
	if o.Base != 10 || o.Package != "PACK" || o.Double || len(o.Features) > 0 || len(o.Table.Entries) > 0 || o.Table.Case != token.Upcase || reader.Check(o) != api.OK {
		t.Errorf("Standard = %v", o)
	}
	if reader.Check(reader.Standard("")) != api.ErrArg {
		t.Error("options without a package are right")
	}
	long := token.Table{Entries: make([]token.Entry, 65)}
	many := strings.Split(strings.Repeat("A ", 63)+"A", " ")
	for _, c := range []struct {
		o    reader.Options
		want api.Errno
	}{
		{reader.Options{Base: 2, Package: longName[1:], Features: many}, api.OK}, {reader.Options{Base: 36, Package: "é", Features: []string{longName[1:], "é", "é"}}, api.OK},
		{reader.Options{Table: long, Base: 1}, api.ErrSize}, {reader.Options{Table: token.Table{Case: 4}, Base: 1, Package: longName}, api.ErrArg}, {reader.Options{Table: token.Table{Entries: []token.Entry{{Char: 'b', Kind: 1}, {Char: 'a', Kind: 1}}}}, api.ErrOrder},
		{reader.Options{Base: 1, Package: longName}, api.ErrArg}, {reader.Options{Base: 37, Package: "P"}, api.ErrArg}, {reader.Options{Package: "P"}, api.ErrArg}, {reader.Options{Base: -8, Package: "P"}, api.ErrArg}, {reader.Options{Base: 10, Features: []string{longName}}, api.ErrArg},
		{reader.Options{Base: 10, Package: longName}, api.ErrSize}, {reader.Options{Base: 10, Package: "P", Features: append(many, "A")}, api.ErrSize}, {reader.Options{Base: 10, Package: "P", Features: []string{"A", longName}}, api.ErrSize}, {reader.Options{Base: 10, Package: longName + "\xff"}, api.ErrSize}, {reader.Options{Base: 10, Package: "\xff", Features: []string{longName}}, api.ErrSize},
		{reader.Options{Base: 10, Package: "P", Features: []string{""}}, api.ErrArg}, {reader.Options{Base: 10, Package: "\xff", Features: []string{""}}, api.ErrArg},
		{reader.Options{Base: 10, Package: "\xff"}, api.ErrForm}, {reader.Options{Base: 10, Package: "P", Features: []string{"A", "\xff"}}, api.ErrForm},
	} {
		if got := reader.Check(c.o); got != c.want {
			t.Errorf("Check(%.60v) = %v; expected %v", c.o, got, c.want)
		}
		if c.want != api.OK {
			failsAll(t, c.o, longText, -1, c.want)
		}
	}
}

// failsAll checks that all functions with options, a text and a place have an error, with the place 0.
func failsAll(t *testing.T, o reader.Options, s string, at int, want api.Errno) {
	t.Helper()
	if n, place, e := reader.Blank(o, s, at); n != 0 || place != 0 || e != want {
		t.Errorf("Blank(%.10q, %d) = %d, %d, %v; expected %v", s, at, n, place, e, want)
	}
	if r, place, e := reader.Read(o, s, at); !isZero(r) || place != 0 || e != want {
		t.Errorf("Read(%.10q, %d): %d, %v; expected %v", s, at, place, e, want)
	}
	if l, place, e := reader.All(o, s); len(l) > 0 || place != 0 || e != want && want != api.ErrArg {
		t.Errorf("All(%.10q): %d, %v; expected %v", s, place, e, want)
	}
	if r, place, e := reader.One(o, s); !isZero(r) || place != 0 || e != want && want != api.ErrArg {
		t.Errorf("One(%.10q): %d, %v; expected %v", s, place, e, want)
	}
}

func TestTextsAndPlaces(t *testing.T) {
	o := reader.Standard("P")
	failsAll(t, o, longText, -1, api.ErrSize)
	failsAll(t, o, longText+"\xff", 0, api.ErrSize)
	failsAll(t, o, "\xff", 9, api.ErrForm)
	for _, c := range []struct {
		s  string
		at int
	}{{"a", -1}, {"a", 2}, {"é", 1}, {"", 1}, {"a", math.MaxInt}, {"a", math.MinInt}} {
		if r, place, e := reader.Read(o, c.s, c.at); !isZero(r) || place != 0 || e != api.ErrArg {
			t.Errorf("Read(%q, %d): %d, %v", c.s, c.at, place, e)
		}
		if n, place, e := reader.Blank(o, c.s, c.at); n != 0 || place != 0 || e != api.ErrArg {
			t.Errorf("Blank(%q, %d): %d, %v", c.s, c.at, place, e)
		}
	}
	if r, _, e := reader.One(o, longText[1:]); e != api.OK || len(r.Form.Text) != api.MaxSource {
		t.Errorf("One of 4000 bytes: %v", e)
	}
}

func TestCharacter(t *testing.T) {
	for name, want := range map[string]rune{"Null": 0, "Backspace": 8, "Tab": 9, "Newline": 10, "Linefeed": 10, "Page": 12, "Return": 13, "Space": 32, "Rubout": 127, "SPACE": 32, "nEwLiNe": 10, "U0041": 'A', "u0041": 'A', "U1F600": 0x1f600, "u10FFFF": 0x10ffff, "u10ffff": 0x10ffff, "Ud7ff": 0xd7ff, "Ue000": 0xe000, "U00000": 0, "U000041": 'A', "u00Ff": 255} {
		if got, ok := reader.Character(name); got != want || !ok {
			t.Errorf("Character(%q) = %x, %v; expected %x", name, got, ok, want)
		}
	}
	for _, name := range []string{"", "a", "Spac", "Spaces", " Space", "Nul", "Delete", "Escape", "U", "U041", "U0000041", "Ud800", "UDFFF", "U110000", "UFFFFFF", "U00g0", "U+0041", "U-041", "U 041", "0041", "UU0041", "Ｕ0041", "\xff", "ſpace", "u00４1", "Bacſpace", "bac\u212aspace"} {
		if got, ok := reader.Character(name); got != 0 || ok {
			t.Errorf("Character(%q) = %x, %v", name, got, ok)
		}
	}
}

// read returns the form of a text with options, with KEYWORD as the package.
func read(t *testing.T, s string) api.Form {
	t.Helper()
	return readIn(t, "KEYWORD", s)
}

func readIn(t *testing.T, pack, s string) api.Form {
	t.Helper()
	r, _, e := reader.One(reader.Standard(pack), s)
	if e != api.OK {
		t.Fatalf("One(%q): %v", s, e)
	}
	return r.Form
}

func TestFeature(t *testing.T) {
	for _, c := range []struct {
		s    string
		want bool
		e    api.Errno
	}{
		{"a", true, api.OK}, {"b", true, api.OK}, {"c", false, api.OK}, {"not", false, api.OK}, {"||", false, api.OK}, {"|a|", false, api.OK}, {"(not a)", false, api.OK}, {"(not c)", true, api.OK}, {"(and)", true, api.OK}, {"(or)", false, api.OK}, {"(and a b)", true, api.OK}, {"(and a c)", false, api.OK}, {"(and c a)", false, api.OK}, {"(or c d)", false, api.OK}, {"(or c b)", true, api.OK}, {"(or b c)", true, api.OK}, {"(not (and a (or c (not b))))", true, api.OK}, {"(and a (or c (not d)) (not (and a c)))", true, api.OK}, {"(and and)", false, api.OK},
		{"(not)", false, api.ErrForm}, {"(not a b)", false, api.ErrForm}, {"()", false, api.ErrForm}, {"p::a", false, api.ErrForm}, {"#:a", false, api.ErrForm}, {"1", false, api.ErrForm}, {"\"a\"", false, api.ErrForm}, {"(a)", false, api.ErrForm}, {"(xor a b)", false, api.ErrForm}, {"(p::not a)", false, api.ErrForm}, {"(and . a)", false, api.ErrForm}, {"(not . a)", false, api.ErrForm}, {"(or a 1)", false, api.ErrForm}, {"(and c 1)", false, api.ErrForm}, {"(or a (not))", false, api.ErrForm}, {"((not a))", false, api.ErrForm}, {"#(not a)", false, api.ErrForm}, {"#1=a", false, api.ErrForm}, {"(or #1=a #1#)", false, api.ErrForm}, {"('not a)", false, api.ErrForm}, {"(and a (p::or))", false, api.ErrForm}, {"(not (not (not 1)))", false, api.ErrForm},
	} {
		if got, e := reader.Feature(read(t, c.s), []string{"A", "B"}); got != c.want || e != c.e {
			t.Errorf("Feature(%s) = %v, %v; expected %v, %v", c.s, got, e, c.want, c.e)
		}
	}
	kid := api.Form{Kind: api.FormSymbol, Home: "KEYWORD", Text: "A", Kids: []api.Form{{}}}
	for _, f := range []api.Form{{}, {Kind: api.FormCons}, {Kind: api.FormCons, Kids: []api.Form{forms.Nil()}}, kid, {Kind: 99, Text: "A", Home: "KEYWORD"}, {Kind: api.FormCons, Kids: []api.Form{{}, {}}}} {
		if got, e := reader.Feature(f, []string{"A"}); got || e != api.ErrForm {
			t.Errorf("Feature(%v) = %v, %v", f, got, e)
		}
	}
	if got, e := reader.Feature(read(t, "||"), []string{"x", ""}); !got || e != api.OK {
		t.Errorf("Feature of the empty name = %v, %v", got, e)
	}
	deep := read(t, "a")
	for range 50000 {
		deep = api.Form{Kind: api.FormCons, Kids: []api.Form{read(t, "not"), deep, forms.Nil()}}
	}
	if got, e := reader.Feature(deep, []string{"A"}); !got || e != api.OK {
		t.Errorf("Feature of a deep expression = %v, %v", got, e)
	}
}

func TestArray(t *testing.T) {
	long := api.Form{Kind: api.FormString, Text: strings.Repeat("é", 2000)}
	longer := api.Form{Kind: api.FormString, Text: strings.Repeat("é", 2001)}
	lists := func(n int, f api.Form) api.Form {
		var l []api.Form
		for range n {
			l = append(l, f)
		}
		return forms.List(l)
	}
	for _, c := range []struct {
		rank int
		f    api.Form
		want string
		e    api.Errno
	}{
		{0, read(t, "(1 2)"), "#A<>[(1 2)]", api.OK}, {0, read(t, "()"), "#A<>[nil]", api.OK}, {0, read(t, "#1=1"), "#A<>[1=1]", api.OK}, {0, read(t, "1"), "#A<>[1]", api.OK},
		{1, read(t, "(1 2)"), "#[1 2]", api.OK}, {1, read(t, "()"), "#[]", api.OK}, {1, read(t, "#(1 (2))"), "#[1 (2)]", api.OK}, {1, read(t, "\"aé\""), "#[\\a \\é]", api.OK}, {1, read(t, "#*01"), "#[0 1]", api.OK}, {1, read(t, "(#1=1 #1#)"), "#[1=1 1#]", api.OK}, {1, read(t, "\"\""), "#[]", api.OK}, {1, read(t, "#*"), "#[]", api.OK},
		{2, read(t, "((1 2) (3 4) (5 6))"), "#A<3 2>[1 2 3 4 5 6]", api.OK}, {2, read(t, "()"), "#A<0 0>[]", api.OK}, {3, read(t, "#()"), "#A<0 0 0>[]", api.OK}, {2, read(t, "(() ())"), "#A<2 0>[]", api.OK}, {3, read(t, "((() ()))"), "#A<1 2 0>[]", api.OK}, {3, read(t, "(())"), "#A<1 0 0>[]", api.OK}, {2, read(t, "(\"ab\" #(1 2) (3 4) #*01)"), "#A<4 2>[\\a \\b 1 2 3 4 0 1]", api.OK}, {7, read(t, "()"), "#A<0 0 0 0 0 0 0>[]", api.OK}, {2, read(t, "((#1=1 #1#))"), "#A<1 2>[1=1 1#]", api.OK}, {2, read(t, "((a (b)))"), "#A<1 2>[KEYWORD:A (KEYWORD:B)]", api.OK}, {2, read(t, "((#2a((1))))"), "#A<1 1>[#A<1 1>[1]]", api.OK},
		{2, read(t, "((1) (2 3))"), "", reader.ErrShape}, {2, read(t, "(() (1))"), "", reader.ErrShape}, {3, read(t, "(() (()))"), "", reader.ErrShape}, {1, read(t, "a"), "", reader.ErrShape}, {1, read(t, "1"), "", reader.ErrShape}, {1, read(t, "#\\a"), "", reader.ErrShape}, {1, read(t, "(1 . 2)"), "", reader.ErrShape}, {1, read(t, "#2a()"), "", reader.ErrShape}, {1, read(t, "#1=(1)"), "", reader.ErrShape}, {2, read(t, "(1)"), "", reader.ErrShape}, {2, read(t, "((1) a)"), "", reader.ErrShape}, {2, read(t, "(#1=(1) #1#)"), "", reader.ErrShape}, {2, read(t, "\"a\""), "", reader.ErrShape}, {3, read(t, "(\"a\")"), "", reader.ErrShape}, {2, read(t, "#*1"), "", reader.ErrShape}, {7, read(t, "((()) ((1)))"), "", reader.ErrShape}, {1, api.Form{Kind: api.FormRef, Text: "1"}, "", reader.ErrShape}, {2, longer, "", reader.ErrShape}, {3, lists(2, longer), "", reader.ErrShape}, {2, forms.List([]api.Form{longer, long}), "", reader.ErrShape},
		{-1, read(t, "(1)"), "", api.ErrArg}, {8, read(t, "()"), "", api.ErrArg}, {math.MaxInt, read(t, "()"), "", api.ErrArg}, {math.MinInt, read(t, "()"), "", api.ErrArg},
		{-1, api.Form{}, "", api.ErrForm}, {0, api.Form{}, "", api.ErrForm}, {1, api.Form{Kind: api.FormBits, Text: "2"}, "", api.ErrForm}, {1, api.Form{Kind: api.FormVector, Kids: make([]api.Form, 2000)}, "", api.ErrSize}, {9, api.Form{Kind: api.FormVector, Kids: make([]api.Form, 2000)}, "", api.ErrSize}, {1, longer, "", api.ErrSize}, {2, lists(2, longer), "", api.ErrSize}, {2, lists(101, api.Form{Kind: api.FormString, Text: strings.Repeat("a", 20)}), "", api.ErrSize}, {1, api.Form{Kind: api.FormBits, Text: strings.Repeat("0", 100000)}, "", api.ErrSize},
	} {
		before := show(c.f)
		got, e := reader.Array(c.rank, c.f)
		if e != c.e || e == api.OK && show(got) != c.want || e != api.OK && show(got) != show(api.Form{}) {
			t.Errorf("Array(%d, %.40s) = %.40s, %v; expected %.40s, %v", c.rank, before, show(got), e, c.want, c.e)
		}
		spoil(got)
		if show(c.f) != before {
			t.Errorf("Array(%d, %.40s) shares memory", c.rank, before)
		}
	}
	if x, e := reader.Array(1, long); e != api.OK || len(x.Kids) != 2000 {
		t.Errorf("Array of 2000 characters: %v", e)
	}
	if x, e := reader.Array(2, lists(100, api.Form{Kind: api.FormString, Text: strings.Repeat("a", 20)})); e != api.OK || len(x.Kids) != 2000 || x.Text != "100 20" {
		t.Errorf("Array of 100 strings of 20 characters: %v", e)
	}
}

// spoil overwrites all that a form has in memory, also behind the ends of its lists.
func spoil(f api.Form) {
	kids := f.Kids[:cap(f.Kids)]
	for i := range kids {
		spoil(kids[i])
		kids[i] = api.Form{Kind: 99}
	}
}

// P7.7
func TestArrays(t *testing.T) {
	r := rand.New(rand.NewSource(77))
	for range 2000 {
		rank := r.Intn(5)
		var dimensions []int
		for range rank {
			dimensions = append(dimensions, r.Intn(4))
		}
		count := 0
		var contents func(d []int) api.Form
		contents = func(d []int) api.Form {
			if len(d) == 0 {
				count++
				return api.Form{Kind: api.FormInt, Text: strconv.Itoa(count)}
			}
			var l []api.Form
			for range d[0] {
				l = append(l, contents(d[1:]))
			}
			if r.Intn(2) == 0 {
				return api.Form{Kind: api.FormVector, Kids: l}
			}
			return forms.List(l)
		}
		x, e := reader.Array(rank, contents(dimensions))
		got, d := forms.Dimensions(x)
		product := 1
		for i, n := range dimensions {
			product *= n
			if product == 0 && i+1 < rank { // what is not there has the dimension 0
				dimensions[i+1] = 0
			}
		}
		if e != api.OK || d != api.OK || fmt.Sprint(got) != fmt.Sprint(dimensions) || len(x.Kids) != product {
			t.Fatalf("Array of the dimensions %v has %v and %d elements: %v, %v", dimensions, got, len(x.Kids), e, d)
		}
		for i, k := range x.Kids {
			if k.Text != strconv.Itoa(i+1) {
				t.Fatalf("the element %d of %v is %s", i, dimensions, k.Text)
			}
		}
	}
}

func TestBackquote(t *testing.T) {
	for _, c := range []struct{ s, want string }{
		{"a", "(QUOTE A)"}, {"12", "(QUOTE 12)"}, {"()", "(QUOTE nil)"}, {"\"x\"", "(QUOTE \"x\")"}, {"#2a((1))", "(QUOTE #A<1 1>[1])"},
		{",a", "A"}, {"(a)", "(APPEND (LIST (QUOTE A)) (QUOTE nil))"}, {"(a ,b ,@c)", "(APPEND (LIST (QUOTE A)) (LIST B) C (QUOTE nil))"}, {"(a . b)", "(APPEND (LIST (QUOTE A)) (QUOTE B))"}, {"(a . ,b)", "(APPEND (LIST (QUOTE A)) B)"}, {"(,@a . ,b)", "(APPEND A B)"}, {"((,a) b)", "(APPEND (LIST (APPEND (LIST A) (QUOTE nil))) (LIST (QUOTE B)) (QUOTE nil))"}, {"(a . #(,b))", "(APPEND (LIST (QUOTE A)) (APPLY (FUNCTION VECTOR) (APPEND (LIST B) (QUOTE nil))))"},
		{"#()", "(APPLY (FUNCTION VECTOR) (QUOTE nil))"}, {"#(a ,b ,@c)", "(APPLY (FUNCTION VECTOR) (APPEND (LIST (QUOTE A)) (LIST B) C (QUOTE nil)))"}, {"'a", "(APPEND (LIST (QUOTE QUOTE)) (LIST (QUOTE A)) (QUOTE nil))"}, {"',a", "(APPEND (LIST (QUOTE QUOTE)) (LIST A) (QUOTE nil))"},
		{"`a", "(APPEND (LIST (QUOTE READER:BACKQUOTE)) (LIST (QUOTE A)) (QUOTE nil))"}, {"`,a", "(APPEND (LIST (QUOTE READER:BACKQUOTE)) (LIST (APPEND (LIST (QUOTE READER:COMMA)) (LIST (QUOTE A)) (QUOTE nil))) (QUOTE nil))"}, {"`,,a", "(APPEND (LIST (QUOTE READER:BACKQUOTE)) (LIST (APPEND (LIST (QUOTE READER:COMMA)) (LIST A) (QUOTE nil))) (QUOTE nil))"}, {"`,,@a", "(APPEND (LIST (QUOTE READER:BACKQUOTE)) (LIST (APPEND (LIST (QUOTE READER:COMMA)) A (QUOTE nil))) (QUOTE nil))"}, {"`(,@,a)", "(APPEND (LIST (QUOTE READER:BACKQUOTE)) (LIST (APPEND (LIST (APPEND (LIST (QUOTE READER:SPLICE)) (LIST A) (QUOTE nil))) (QUOTE nil))) (QUOTE nil))"}, {"`(a . ,,b)", "(APPEND (LIST (QUOTE READER:BACKQUOTE)) (LIST (APPEND (LIST (QUOTE A)) (APPEND (LIST (QUOTE READER:COMMA)) (LIST B) (QUOTE nil)))) (QUOTE nil))"},
		{"(reader::backquote a . ,b)", "(APPEND (LIST (QUOTE READER:BACKQUOTE)) (LIST (QUOTE A)) B)"}, {"(reader::backquote)", "(APPEND (LIST (QUOTE READER:BACKQUOTE)) (QUOTE nil))"}, {"(reader::backquote ,a b)", "(APPEND (LIST (QUOTE READER:BACKQUOTE)) (LIST A) (LIST (QUOTE B)) (QUOTE nil))"}, {"(reader::backquote . ,a)", "(APPEND (LIST (QUOTE READER:BACKQUOTE)) A)"}, {"(reader::backquote reader::comma)", "(APPEND (LIST (QUOTE READER:BACKQUOTE)) (LIST (QUOTE READER:COMMA)) (QUOTE nil))"}, {"(a reader::comma b . c)", "(APPEND (LIST (QUOTE A)) (LIST (QUOTE READER:COMMA)) (LIST (QUOTE B)) (QUOTE C))"}, {"(a reader::comma)", "(APPEND (LIST (QUOTE A)) (LIST (QUOTE READER:COMMA)) (QUOTE nil))"}, {"(a reader::comma b c)", "(APPEND (LIST (QUOTE A)) (LIST (QUOTE READER:COMMA)) (LIST (QUOTE B)) (LIST (QUOTE C)) (QUOTE nil))"}, {"#(reader::comma a)", "(APPLY (FUNCTION VECTOR) A)"}, {"(reader::comma reader::splice)", "READER:SPLICE"}, {"`(reader::comma a b)", "(APPEND (LIST (QUOTE READER:BACKQUOTE)) (LIST (APPEND (LIST (QUOTE READER:COMMA)) (LIST (QUOTE A)) (LIST (QUOTE B)) (QUOTE nil))) (QUOTE nil))"},
	} {
		f := read1(t, c.s)
		before := show(f)
		got, e := reader.Backquote(f)
		if text := strings.ReplaceAll(show(got), "COMMON-LISP:", ""); text != c.want || e != api.OK {
			t.Errorf("Backquote of %s = %s, %v; expected %s", c.s, text, e, c.want)
		}
		spoil(got)
		if show(f) != before {
			t.Errorf("Backquote of %s shares memory", c.s)
		}
	}
}

// read1 returns the form behind a backquote.
func read1(t *testing.T, s string) api.Form {
	t.Helper()
	return readIn(t, "P", "`"+s).Kids[1]
}

func TestBackquoteErrors(t *testing.T) {
	row := func(n int) api.Form {
		var l []api.Form
		for range n {
			l = append(l, forms.Symbol("P", "A"))
		}
		return forms.List(l)
	}
	commas := func(n int) []api.Form {
		var l []api.Form
		for range n {
			l = append(l, forms.List([]api.Form{forms.Symbol("READER", "COMMA"), forms.Symbol("P", "A")}))
		}
		return l
	}
	lists := func(n int) api.Form {
		f := forms.Symbol("P", "A")
		for range n {
			f = forms.List([]api.Form{f})
		}
		return f
	}
	deep := forms.Symbol("P", "A")
	for range 99 {
		deep = api.Form{Kind: api.FormVector, Kids: []api.Form{deep}}
	}
	for _, c := range []struct {
		f    api.Form
		want api.Errno
	}{
		{read1(t, ",@a"), reader.ErrComma}, {read1(t, "(a . ,@b)"), reader.ErrComma}, {read1(t, "(a b . ,@c)"), reader.ErrComma}, {read1(t, "#((x . ,@c))"), reader.ErrComma}, {read1(t, "(reader::comma)"), api.ErrForm}, {read1(t, "(reader::comma a b)"), api.ErrForm}, {read1(t, "(reader::comma . a)"), api.ErrForm}, {read1(t, "(x (reader::splice))"), api.ErrForm}, {read1(t, "(x (reader::splice a b))"), api.ErrForm}, {read1(t, "(x (reader::splice a . b))"), api.ErrForm}, {read1(t, "(reader::comma reader::comma a)"), api.ErrForm}, {read1(t, "`,,(reader::comma)"), api.OK},
		{read1(t, "#1=a"), forms.ErrLabel}, {read1(t, "(#1=a ,@b . #1#)"), forms.ErrLabel}, {read1(t, ",#1=a"), forms.ErrLabel}, {read1(t, "(#1=a . ,@b)"), forms.ErrLabel},
		{api.Form{}, api.ErrForm}, {api.Form{Kind: api.FormCons, Kids: []api.Form{read1(t, "#1=a"), {}}}, api.ErrForm}, {api.Form{Kind: api.FormRef, Text: "1"}, forms.ErrLabel}, {row(1999), api.ErrSize}, {api.Form{Kind: api.FormVector, Kids: make([]api.Form, 2000)}, api.ErrSize},
		{row(284), api.OK}, {row(285), api.ErrSize}, {forms.Dotted(commas(3), row(283)), api.OK}, {forms.Dotted(commas(5), row(282)), api.ErrSize}, {lists(49), api.OK}, {lists(50), api.ErrSize}, {deep, api.ErrSize},
	} {
		got, e := reader.Backquote(c.f)
		if e != c.want || e != api.OK && show(got) != show(api.Form{}) {
			t.Errorf("Backquote(%.60s): %v; expected %v", show(c.f), e, c.want)
		}
	}
}

// value returns the value of a form that Backquote returned: symbols have their names as values, but those that begin with L, which have lists of two.
func value(t *testing.T, f api.Form) api.Form {
	if f.Kind == api.FormSymbol {
		x := api.Form{Kind: api.FormString, Text: f.Text}
		if strings.HasPrefix(f.Text, "L") {
			return forms.List([]api.Form{x, x})
		}
		return x
	}
	if f.Kind != api.FormCons || f.Kids[0].Home != "COMMON-LISP" || !forms.IsNil(f.Kids[len(f.Kids)-1]) {
		t.Fatalf("a strange form: %s", show(f))
	}
	args := f.Kids[1 : len(f.Kids)-1]
	switch f.Kids[0].Text {
	case "QUOTE":
		return args[0]
	case "LIST":
		return forms.List([]api.Form{value(t, args[0])})
	case "APPEND":
		last := len(args) - 1
		tail := value(t, args[last])
		for i := last - 1; i >= 0; i-- {
			l, ok := forms.Items(value(t, args[i]))
			if !ok {
				t.Fatalf("APPEND of %s", show(args[i]))
			}
			tail = forms.Dotted(l, tail)
		}
		return tail
	case "APPLY":
		l, ok := forms.Items(value(t, args[1]))
		if !ok || show(args[0]) != "(COMMON-LISP:FUNCTION COMMON-LISP:VECTOR)" {
			t.Fatalf("a strange form: %s", show(f))
		}
		return api.Form{Kind: api.FormVector, Kids: l}
	}
	t.Fatalf("a strange form: %s", show(f))
	return api.Form{}
}

// filled returns a form with what commas name replaced by its value, as far as no backquote stands around it.
func filled(t *testing.T, f api.Form, depth int) api.Form {
	mark := ""
	if f.Kind == api.FormCons && len(f.Kids) == 3 && f.Kids[0].Home == "READER" {
		mark = f.Kids[0].Text
	}
	switch mark {
	case "BACKQUOTE":
		depth++
	case "COMMA", "SPLICE":
		if depth == 1 {
			return value(t, f.Kids[1])
		}
		depth--
	}
	if f.Kind == api.FormVector {
		return api.Form{Kind: api.FormVector, Kids: filledAll(t, f.Kids, depth)}
	}
	if f.Kind != api.FormCons {
		return f
	}
	last := len(f.Kids) - 1
	l, tail := f.Kids[:last], f.Kids[last]
	if n := len(l) - 2; n > 0 && forms.Is(l[n], "READER", "COMMA") && forms.IsNil(tail) {
		l, tail = l[:n], forms.List(l[n:])
	}
	return forms.Dotted(filledAll(t, l, depth), filled(t, tail, depth))
}

func filledAll(t *testing.T, l []api.Form, depth int) []api.Form {
	var all []api.Form
	for _, k := range l {
		isSplice := depth == 1 && k.Kind == api.FormCons && len(k.Kids) == 3 && forms.Is(k.Kids[0], "READER", "SPLICE")
		x := filled(t, k, depth)
		if !isSplice {
			all = append(all, x)
			continue
		}
		items, _ := forms.Items(x)
		all = append(all, items...)
	}
	return all
}

// template returns the text of a form that may stand in so many backquotes.
func template(r *rand.Rand, level, depth int) string {
	list := func() string {
		var l []string
		for range r.Intn(4) {
			if depth < 4 && r.Intn(4) == 0 && level == 1 {
				l = append(l, ",@"+[]string{"l", "l1"}[r.Intn(2)])
				continue
			}
			l = append(l, template(r, level, depth+1))
		}
		return strings.Join(l, " ")
	}
	if depth > 4 {
		return "a"
	}
	switch r.Intn(9) {
	case 0, 1:
		return "(" + list() + ")"
	case 2:
		// A backquote behind a dot is read as two more elements.
		tail := []string{"b", "#(a b)", "#(" + template(r, level, depth+1) + ")", ",x"}
		if level > 1 {
			tail[3] = "," + template(r, level-1, depth+1)
		}
		return "(a " + list() + " . " + tail[r.Intn(4)] + ")"
	case 3:
		return "#(" + list() + ")"
	case 4:
		return "`" + template(r, level+1, depth+1)
	case 5, 6:
		if level == 1 {
			return "," + []string{"x", "y", "l"}[r.Intn(3)]
		}
		return "," + template(r, level-1, depth+1)
	}
	return []string{"a", "b", "1", "\"s\"", "nil", "'q"}[r.Intn(6)]
}

// P7.6
func TestTemplates(t *testing.T) {
	r := rand.New(rand.NewSource(76))
	for range 5000 {
		s := template(r, 1, 0)
		f := read1(t, s)
		x, e := reader.Backquote(f)
		if e != api.OK {
			t.Fatalf("Backquote of %s: %v", s, e)
		}
		if got, want := value(t, x), filled(t, f, 1); !equal(got, want) {
			t.Fatalf("Backquote of %s: the value is %s; expected %s", s, show(got), show(want))
		}
		if !strings.ContainsAny(s, ",#") {
			if got := value(t, x); !equal(got, f) {
				t.Fatalf("Backquote of %s: the value is %s", s, show(got))
			}
		}
	}
}

func isText(s string) bool {
	return len(s) <= api.MaxSource && utf8.ValidString(s)
}
