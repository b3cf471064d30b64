package pretty_test

import (
	"math/rand"
	"slices"
	"strings"
	"testing"

	"commonform/api"
	"commonform/pretty"
)

func manyOf(n int, l ...pretty.Op) []pretty.Op {
	var all []pretty.Op
	for range n {
		all = append(all, l...)
	}
	return all
}

func TestCheck(t *testing.T) {
	long := text(strings.Repeat("a", 20000))
	nested := slices.Concat(manyOf(100, open("")), manyOf(100, end("")))
	for i, c := range []struct {
		l    []pretty.Op
		want api.Errno
	}{
		{nil, api.OK}, {manyOf(4000, text("aaaaa")), api.OK}, {[]pretty.Op{long}, api.OK}, {nested, api.OK}, {words("( a _ L b ) T R @ < ! M F"), api.OK}, {[]pretty.Op{indent(-100, false), indent(100, true), tab(100, 100, true), tab(0, 0, false), text("a\nb")}, api.OK}, {[]pretty.Op{{Kind: pretty.Text, N: 999, M: -1, Flag: true}, {Kind: pretty.Newline, M: 999}, {Kind: pretty.Indent, M: 999}}, api.OK},
		{manyOf(4001, text("")), api.ErrSize}, {[]pretty.Op{long, text("a")}, api.ErrSize}, {[]pretty.Op{long, {Kind: pretty.Indent, Text: "a"}}, api.ErrSize}, {manyOf(4001, newline(9)), api.ErrSize}, {[]pretty.Op{long, text("\xff"), {Kind: 9}}, api.ErrSize},
		{[]pretty.Op{{Kind: 6}}, api.ErrArg}, {[]pretty.Op{{Kind: -1}}, api.ErrArg}, {[]pretty.Op{newline(4)}, api.ErrArg}, {[]pretty.Op{newline(-1)}, api.ErrArg}, {[]pretty.Op{indent(-101, false)}, api.ErrArg}, {[]pretty.Op{indent(101, true)}, api.ErrArg}, {[]pretty.Op{tab(-1, 0, false)}, api.ErrArg}, {[]pretty.Op{tab(101, 0, false)}, api.ErrArg}, {[]pretty.Op{tab(0, -1, true)}, api.ErrArg}, {[]pretty.Op{tab(0, 101, true)}, api.ErrArg}, {[]pretty.Op{{Kind: 6, Text: "\xff"}}, api.ErrArg},
		{[]pretty.Op{text("\xff")}, api.ErrForm}, {[]pretty.Op{open("a\n")}, api.ErrForm}, {[]pretty.Op{open(""), end("\n")}, api.ErrForm}, {[]pretty.Op{{Kind: pretty.Newline, Text: "\xff"}}, api.ErrForm}, {[]pretty.Op{end("\xff")}, api.ErrForm}, {[]pretty.Op{open("\xed\xa0\x80")}, api.ErrForm},
		{[]pretty.Op{end("")}, pretty.ErrBlock}, {words("( ) )"), pretty.ErrBlock}, {words("( ( )"), pretty.ErrBlock}, {manyOf(101, open("")), pretty.ErrBlock}, {slices.Concat(manyOf(101, open("")), manyOf(101, end(""))), pretty.ErrBlock}, {[]pretty.Op{end(""), {Kind: 9}}, pretty.ErrBlock}, {[]pretty.Op{open(""), {Kind: 9}}, api.ErrArg}, {slices.Concat(manyOf(101, open("")), []pretty.Op{{Kind: 9}}), pretty.ErrBlock}, {[]pretty.Op{{Kind: 9}, end("")}, api.ErrArg}, {slices.Concat(manyOf(100, open("")), []pretty.Op{open("\xff")}), api.ErrForm},
	} {
		if e := pretty.Check(c.l); e != c.want {
			t.Errorf("Check of %d: %v; expected %v", i, e, c.want)
		}
		if c.want == api.OK {
			continue
		}
		if s, e := pretty.Flat(c.l); s != "" || e != c.want {
			t.Errorf("Flat of %d = %.20q, %v; expected %v", i, s, e, c.want)
		}
		if s, e := pretty.Render(c.l, 0, -1); s != "" || e != c.want {
			t.Errorf("Render of %d = %.20q, %v; expected %v", i, s, e, c.want)
		}
	}
}

func TestFlat(t *testing.T) {
	for _, c := range []struct {
		l    []pretty.Op
		want string
	}{
		{nil, ""}, {words("( a _ L b ! F M c )"), "(a bc)"}, {words("; a > @ ! b )"), "; ab)"}, {words("ab T c T d T"), "ab    c   d   "}, {words("R a R b R"), "     a    b    "}, {[]pretty.Op{text("ab\nc"), tab(3, 0, false), text("d"), tab(0, 4, true), text("e")}, "ab\nc  de"}, {[]pretty.Op{text("éé"), tab(4, 0, false), text("a")}, "éé  a"}, {[]pretty.Op{text("abc"), tab(2, 0, false), text("d"), tab(4, 3, false), text("e")}, "abcd   e"}, {[]pretty.Op{text("a"), tab(3, 0, true), text("b"), tab(0, 0, true), text("c")}, "a   bc"}, {[]pretty.Op{{Kind: pretty.Newline, Text: "x"}, {Kind: pretty.Indent, Text: "x"}, {Kind: pretty.Tab, Text: "x"}}, ""},
	} {
		if got, e := pretty.Flat(c.l); got != c.want || e != api.OK {
			t.Errorf("Flat(%v) = %q, %v; expected %q", c.l, got, e, c.want)
		}
	}
	full := slices.Concat(manyOf(1000, tab(100, 0, true)), []pretty.Op{open(""), end("")})
	if got, e := pretty.Flat(full); len(got) != 100000 || e != api.OK {
		t.Errorf("Flat of 100000 spaces: %d, %v", len(got), e)
	}
	if got, e := pretty.Flat(append(full, text("a"))); got != "" || e != api.ErrLarge {
		t.Errorf("Flat of more: %d, %v", len(got), e)
	}
}

func TestWidth(t *testing.T) {
	for s, want := range map[string]int{"": 0, "abc": 3, "ab\nabc\né": 3, "\n\n": 0, "é日x": 3, "a\xff\xffb": 4, "abcd\n": 4, "\r\t": 2} {
		if got := pretty.Width(s); got != want {
			t.Errorf("Width(%q) = %d; expected %d", s, got, want)
		}
	}
}

func TestRender(t *testing.T) {
	for _, c := range []struct {
		s            string
		width, miser int
		want         string
	}{
		{"( aa _ L bb )", 7, 0, "(aa bb)"}, {"( aa _ L bb )", 6, 0, "(aa\n bb)"}, {"( aa _ F bb _ F cc )", 7, 0, "(aa bb\n cc)"}, {"( aa _ F bb _ F cc )", 10, 0, "(aa bb cc)"}, {"( aa _ F bb _ F cc )", 6, 0, "(aa\n bb\n cc)"}, {"( aa _ F bb _ F cc )", 9, 0, "(aa bb\n cc)"},
		{"( aa _ L ( bb _ L cc ) _ L dd )", 15, 0, "(aa (bb cc) dd)"}, {"( aa _ L ( bb _ L cc ) _ L dd )", 14, 0, "(aa\n (bb cc)\n dd)"}, {"( aa _ L ( bb _ L cc ) _ L dd )", 9, 0, "(aa\n (bb cc)\n dd)"}, {"( aa _ L ( bb _ L cc ) _ L dd )", 7, 0, "(aa\n (bb\n  cc)\n dd)"}, {"( aa _ L ( bb _ L cc ) )", 9, 0, "(aa\n (bb cc))"}, {"( aa _ L ( bb _ L cc ) )", 8, 0, "(aa\n (bb\n  cc))"},
		{"aa _ L bb", 5, 0, "aa bb"}, {"aa _ L bb", 4, 0, "aa\nbb"}, {"aa ! bb _ L cc", 80, 0, "aa\nbb\ncc"}, {"aa _ L bb ( c ! d )", 80, 0, "aa\nbb(c\n   d)"}, {"a F b ! c", 80, 0, "ab\nc"}, {"( a F b ) ! c", 80, 0, "(ab)\nc"}, {"a ! ( b L c )", 80, 0, "a\n(bc)"},
		{"( aa _ M bb )", 6, 0, "(aa bb)"}, {"( aa _ M bb )", 6, 4, "(aa bb)"}, {"( aa _ M bb )", 6, 5, "(aa\n bb)"}, {"( aa _ M bb )", 7, 7, "(aa bb)"}, {"( aa _ F bb )", 7, 7, "(aa bb)"}, {"( aa _ F bb _ F cc )", 9, 8, "(aa\n bb\n cc)"}, {"M a", 200, 200, "a"}, {"a M bb", 2, 2, "a\nbb"}, {"a M bb", 2, 1, "abb"}, {"( a _ > L b )", 4, 4, "(a\n b)"}, {"( a _ > L b )", 4, 2, "(a\n   b)"},
		{"( aa > _ L bb )", 6, 0, "(aa\n   bb)"}, {"( aa _ @ L bb _ L cc )", 6, 0, "(aa\n    bb\n    cc)"}, {"( < aa _ L bb )", 6, 0, "(aa\nbb)"}, {"< < a ! b", 6, 0, "a\nb"}, {"( aa _ L bb @ _ L cc )", 6, 0, "(aa\n bb\n   cc)"},
		{"; a ! ( b ! c ) ! d )", 80, 0, "; a\n; (b\n;  c)\n; d)"}, {"x ; a ! ; b ! c ) ! d )", 80, 0, "x; a\n ; ; b\n ; ; c)\n ; d)"}, {"; > a ! b )", 80, 0, "; a\n;   b)"}, {"; < < < a ! b )", 80, 0, "; a\n; b)"},
		{"( aa _ _ _ L bb _ _ )", 8, 0, "(aa\n bb  )"}, {"( aa T L bb )", 8, 0, "(aa\n bb)"}, {"a T b _ L c", 8, 0, "a     b\nc"}, {"a T b _ L c", 9, 0, "a     b c"}, {"( a _ F ( b ! c ) _ F d )", 80, 0, "(a\n (b\n  c)\n d)"}, {"( a _ F b ! c _ F d )", 80, 0, "(a b\n c d)"},
		{"! a", 80, 0, "\na"}, {"_ ! a", 80, 0, "\na"}, {"a ! _ !", 80, 0, "a\n\n"}, {"", 1, 0, ""}, {"( )", 1, 0, "()"}, {"aaaaaaaaaa L b", 5, 0, "aaaaaaaaaa\nb"}, {"( aaaa F F b )", 4, 0, "(aaaa\n b)"},
	} {
		if got, e := pretty.Render(words(c.s), c.width, c.miser); got != c.want || e != api.OK {
			t.Errorf("Render(%s, %d, %d) = %q, %v; expected %q", c.s, c.width, c.miser, got, e, c.want)
		}
	}
	feed := []pretty.Op{open("("), text("a\nbc"), text(" "), newline(pretty.Fill), text("d"), newline(pretty.Fill), text("e"), end(")")}
	if got, e := pretty.Render(feed, 80, 0); got != "(a\nbc\n de)" || e != api.OK {
		t.Errorf("Render with a line feed in a Text = %q, %v", got, e)
	}
	empty := []pretty.Op{text("ab"), lineOpen(""), indent(-9, false), text("c"), newline(pretty.Mandatory), text("d"), end("")}
	if got, e := pretty.Render(empty, 80, 0); got != "abc\n  d" || e != api.OK {
		t.Errorf("Render with an empty prefix of each line = %q, %v", got, e)
	}
}

func TestRenderErrors(t *testing.T) {
	for _, c := range []struct{ width, miser int }{{0, 0}, {201, 0}, {-1, 0}, {80, -1}, {80, 201}, {0, -1}} {
		if s, e := pretty.Render(words("a"), c.width, c.miser); s != "" || e != api.ErrArg {
			t.Errorf("Render in %d and %d = %q, %v", c.width, c.miser, s, e)
		}
	}
	if s, e := pretty.Render(words("a"), 200, 200); s != "a" || e != api.OK {
		t.Errorf("Render in 200 and 200 = %q, %v", s, e)
	}
	spaces := slices.Clip(manyOf(1000, tab(100, 0, true)))
	for i, c := range []struct {
		l    []pretty.Op
		size int
		want api.Errno
	}{
		{spaces, 100000, api.OK}, {append(spaces, text("a")), 0, api.ErrLarge}, {append(spaces, text(" "), newline(pretty.Mandatory), text("b")), 2, api.OK}, {append(spaces, text(" ")), 0, api.ErrLarge}, {append(spaces, open("("), end(""), newline(pretty.Mandatory)), 0, api.ErrLarge}, {append(spaces[:999:999], tab(99, 0, true), text("a"), newline(pretty.Mandatory)), 0, api.ErrLarge}, {append(spaces[:999:999], tab(98, 0, true), text("a"), newline(pretty.Mandatory)), 100000, api.OK},
		{slices.Concat(spaces[:900], []pretty.Op{open("(")}, manyOf(1000, newline(pretty.Mandatory)), []pretty.Op{end(")")}), 0, api.ErrLarge}, {slices.Concat([]pretty.Op{lineOpen(strings.Repeat("x", 10000))}, manyOf(3000, newline(pretty.Mandatory)), []pretty.Op{end(")")}), 0, api.ErrLarge}, {slices.Concat(manyOf(1300, tab(100, 100, true)), []pretty.Op{open("(")}, manyOf(1300, newline(pretty.Mandatory), text("a")), []pretty.Op{end(")")}), 0, api.ErrLarge}, {manyOf(4000, tab(100, 100, true)), 0, api.ErrLarge},
	} {
		if s, e := pretty.Render(c.l, 80, 0); len(s) != c.size || e != c.want {
			t.Errorf("Render of %d: %d, %v; expected %d, %v", i, len(s), e, c.size, c.want)
		}
	}
}

// P9.1: Render does what the definitions say.
func TestRenderAsDefined(t *testing.T) {
	r := rand.New(rand.NewSource(91))
	for range 40000 {
		l := random(r, 30, r.Intn(3) == 0, r.Intn(3) == 0)
		width, miser := 1+r.Intn(40), r.Intn(30)
		if r.Intn(2) == 0 {
			miser = 0
		}
		before := slices.Clone(l)
		want := rendered(l, width, miser)
		if got, e := pretty.Render(l, width, miser); got != want || e != api.OK {
			t.Fatalf("Render(%v, %d, %d) = %q, %v; expected %q", l, width, miser, got, e, want)
		}
		if !slices.Equal(l, before) {
			t.Fatal("an argument was changed")
		}
	}
}

// P9.2
func TestFlatTexts(t *testing.T) {
	r := rand.New(rand.NewSource(92))
	count := 0
	for range 10000 {
		l := random(r, 20, false, true)
		flat, e := pretty.Flat(l)
		if e != api.OK {
			t.Fatal(e)
		}
		if width := max(1, pretty.Width(flat)); width <= 200 {
			count++
			if got, e := pretty.Render(l, width, r.Intn(200)); got != flat || e != api.OK {
				t.Fatalf("Render(%v, %d) = %q, %v; expected %q", l, width, got, e, flat)
			}
		}
		bare := slices.DeleteFunc(random(r, 20, true, true), func(x pretty.Op) bool { return x.Kind == pretty.Newline })
		flat, _ = pretty.Flat(bare)
		if got, e := pretty.Render(bare, 1+r.Intn(20), r.Intn(20)); got != flat || e != api.OK {
			t.Fatalf("Render(%v) without newlines = %q, %v; expected %q", bare, got, e, flat)
		}
	}
	if count < 5000 {
		t.Errorf("%d texts", count)
	}
}

func bare(s string) string {
	return strings.NewReplacer(" ", "", "\n", "").Replace(s)
}

// P9.3
func TestSameWords(t *testing.T) {
	r := rand.New(rand.NewSource(93))
	for range 10000 {
		l := random(r, 30, true, false)
		flat, _ := pretty.Flat(l)
		if got, e := pretty.Render(l, 1+r.Intn(30), r.Intn(30)); bare(got) != bare(flat) || e != api.OK {
			t.Fatalf("Render(%v) = %q, %v; flat %q", l, got, e, flat)
		}
	}
}

// P9.4: of a block with newlines of one kind alone, between words of its own.
func TestBlocks(t *testing.T) {
	r := rand.New(rand.NewSource(94))
	row := func(kind, n int, ahead string) []pretty.Op {
		l := []pretty.Op{text(ahead), open("(")}
		for i := range n {
			if i > 0 {
				l = append(l, newline(kind))
			}
			l = append(l, text(strings.Repeat("w", 1+r.Intn(6))))
		}
		return append(l, end(")"))
	}
	some, all := 0, 0
	for range 5000 {
		n, width, miser := 2+r.Intn(5), 5+r.Intn(40), r.Intn(40)
		ahead := strings.Repeat("a", r.Intn(10))
		got, _ := pretty.Render(row(pretty.Linear, n, ahead), width, miser)
		switch strings.Count(got, "\n") {
		case 0:
			some++
		case n - 1:
			all++
		default:
			t.Fatalf("some newlines of a block break the line: %q", got)
		}
		if got, _ := pretty.Render(row(pretty.Mandatory, n, ahead), width, miser); strings.Count(got, "\n") != n-1 {
			t.Fatalf("a mandatory newline does not break the line: %q", got)
		}
		got, _ = pretty.Render(row(pretty.Miser, n, ahead), width, miser)
		if breaks := strings.Count(got, "\n"); breaks != 0 && (breaks != n-1 || width-len(ahead)-1 > miser) {
			t.Fatalf("a miser newline breaks the line: %q", got)
		}
	}
	if some < 500 || all < 500 {
		t.Errorf("%d texts in one line, %d in several", some, all)
	}
}

// P9.5
func TestEnds(t *testing.T) {
	r := rand.New(rand.NewSource(95))
	for range 10000 {
		var l []pretty.Op
		for _, x := range random(r, 30, true, true) {
			if !strings.Contains(x.Text, "\n") {
				l = append(l, x)
			}
		}
		got, e := pretty.Render(l, 1+r.Intn(30), r.Intn(30))
		if e != api.OK || strings.Contains(got, " \n") {
			t.Fatalf("Render(%v) = %q, %v", l, got, e)
		}
	}
}
