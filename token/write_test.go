package token_test

import (
	"regexp"
	"slices"
	"strings"
	"testing"

	"commonform/api"
	"commonform/token"
)

func TestPotential(t *testing.T) {
	for _, c := range []struct {
		s    string
		base int
		want bool
	}{
		{"+1", 10, true}, {"1/2", 10, true}, {"1e5", 10, true}, {"-.5", 10, true}, {"12_3", 10, true}, {"ff", 16, true}, {"FF", 16, true}, {"^1", 10, true}, {"_1", 10, true}, {"1^a_b", 10, true}, {"1x", 10, true}, {"1.5e-10", 10, true}, {"19", 2, true}, {"z", 36, true}, {"1a/b", 11, true}, {"-1+2", 10, true}, {".1", 2, true}, {"+.^_/1", 3, true}, {"a1b", 11, true}, {"1/", 10, true}, {"1.", 10, true}, {"1^", 10, true},
		{"+", 10, false}, {"1+", 10, false}, {"1-", 10, false}, {"abc", 10, false}, {"1ab", 10, false}, {"", 10, false}, {"ff", 10, false}, {"/1", 10, false}, {"e1", 10, false}, {".", 10, false}, {"1:2", 10, false}, {"1 ", 10, false}, {"1é", 10, false}, {"１", 10, false}, {"1\x00", 10, false}, {"^_", 10, false}, {"1zz", 35, false}, {"g", 16, false}, {"1gG", 16, false}, {"1#", 10, false}, {"#x1", 16, false}, {"1\\", 10, false},
	} {
		if got, e := token.Potential(c.s, c.base); got != c.want || e != api.OK {
			t.Errorf("Potential(%q, %d) = %v, %v", c.s, c.base, got, e)
		}
	}
	// In the base 11 the digits are 0 to 9 and a; b is a letter that is none.
	chars := regexp.MustCompile(`^[0-9aA+\-/.^_b]*$`)
	begin := regexp.MustCompile(`^[0-9aA+\-.^_]`)
	for s := range texts("1ab+/.", 5) {
		want := chars.MatchString(s) && !strings.Contains(s, "bb") && strings.ContainsAny(s, "1a") && begin.MatchString(s) && !strings.HasSuffix(s, "+")
		if got, _ := token.Potential(s, 11); got != want {
			t.Fatalf("Potential(%q, 11) = %v", s, got)
		}
	}
	for _, c := range []struct {
		s    string
		base int
		want api.Errno
	}{{"1", 1, api.ErrArg}, {"1", 37, api.ErrArg}, {"1", -5, api.ErrArg}, {longText, 1, api.ErrSize}, {"\xff", 1, api.ErrForm}} {
		if got, e := token.Potential(c.s, c.base); got || e != c.want {
			t.Errorf("Potential(%.10q, %d): %v", c.s, c.base, e)
		}
	}
}

func TestBack(t *testing.T) {
	for _, c := range []struct {
		mode    int
		s, want string
	}{{token.Upcase, "FoO1É", "foo1É"}, {token.Downcase, "FoO1é", "FOO1é"}, {token.Preserve, "FoO", "FoO"}, {token.Invert, "FoO", "FoO"}, {token.Invert, "FOO-1", "foo-1"}, {token.Invert, "foo", "FOO"}, {token.Invert, "1", "1"}, {token.Upcase, "", ""}} {
		if got, e := token.Back(token.Table{Case: c.mode}, c.s); got != c.want || e != api.OK {
			t.Errorf("Back(%d, %q) = %q, %v", c.mode, c.s, got, e)
		}
	}
	for _, c := range []struct {
		t    token.Table
		s    string
		want api.Errno
	}{{token.Table{Entries: entries(65)}, "\xff", api.ErrSize}, {token.Table{Case: -1}, longText, api.ErrArg}, {token.Table{}, longText, api.ErrSize}, {token.Table{}, "\xff", api.ErrForm}} {
		if got, e := token.Back(c.t, c.s); got != "" || e != c.want {
			t.Errorf("Back(%.10q): %v", c.s, e)
		}
	}
}

func TestEscaped(t *testing.T) {
	none := with(t, token.Upcase, "|2")
	bare := with(t, token.Upcase, "\\2")
	for _, c := range []struct {
		t    token.Table
		s    string
		base int
		want string
		e    api.Errno
	}{
		{token.Table{}, "FOO", 10, "foo", api.OK}, {token.Table{}, "foo", 10, "|foo|", api.OK}, {token.Table{}, "1+", 10, "1+", api.OK}, {token.Table{}, "12", 10, "|12|", api.OK}, {token.Table{}, "A|B", 10, `|A\|B|`, api.OK}, {token.Table{}, "..", 10, "|..|", api.OK}, {token.Table{}, "", 10, "||", api.OK}, {token.Table{}, "A:B", 10, "|A:B|", api.OK}, {token.Table{}, "#A", 10, "|#A|", api.OK}, {token.Table{}, "A#", 10, "a#", api.OK}, {token.Table{}, "FF", 10, "ff", api.OK}, {token.Table{}, "FF", 16, "|FF|", api.OK}, {token.Table{}, "\\", 10, `|\\|`, api.OK}, {token.Table{}, "A\x01", 10, "|A\x01|", api.OK}, {token.Table{}, "É", 10, "É", api.OK},
		{token.Table{Case: token.Invert}, "FOO", 10, "foo", api.OK}, {token.Table{Case: token.Invert}, "Foo", 10, "Foo", api.OK}, {token.Table{Case: token.Preserve}, "foo", 10, "foo", api.OK}, {token.Table{Case: token.Downcase}, "FOO", 10, "|FOO|", api.OK},
		{with(t, token.Upcase, "!6~6$5^5"), "a|\\!~$^", 10, "!a$|$\\$!$~$$$^!", api.OK}, {with(t, token.Upcase, "~6^5"), "a|b", 10, "|a\\|b|", api.OK}, {with(t, token.Upcase, "~6^5|2\\2"), "a~^\\|", 10, "~a^~^^\\|~", api.OK},
		{none, "A", 10, "a", api.OK}, {none, "a", 10, "", api.ErrNone}, {none, "", 10, "", api.ErrNone}, {bare, "a\\", 10, "|a\\|", api.OK}, {bare, "a|", 10, "", api.ErrNone}, {with(t, token.Upcase, "\\6|5"), "a\\", 10, "\\a|\\\\", api.OK},
		{token.Table{Entries: entries(65)}, longText, 1, "", api.ErrSize}, {token.Table{Case: 9}, longText, 1, "", api.ErrArg}, {token.Table{}, longText, 1, "", api.ErrSize}, {token.Table{}, "\xff", 1, "", api.ErrForm}, {none, "a", 1, "", api.ErrArg}, {none, "a", 37, "", api.ErrArg},
	} {
		if got, e := token.Escaped(c.t, c.s, c.base); got != c.want || e != c.e {
			t.Errorf("Escaped(%v, %.10q, %d) = %q, %v; expected %q, %v", c.t, c.s, c.base, got, e, c.want, c.e)
		}
	}
	if got, e := token.Escaped(token.Table{}, longText[1:], 10); got != "|"+longText[1:]+"|" || e != api.OK {
		t.Errorf("Escaped of 4000 characters: %v", e)
	}
}

// has reports whether a readtable has characters of a kind.
func has(t token.Table, kind int) bool {
	for _, c := range "|\\" {
		if k, _ := token.Kind(t, c); k == kind {
			return true
		}
	}
	return slices.ContainsFunc(t.Entries, func(x token.Entry) bool { return x.Kind == kind })
}

// P6.5
func TestNamesThereAndBack(t *testing.T) {
	count := 0
	for x := range tables(t) {
		for s := range words(300, 6) {
			for _, base := range []int{2, 10, 16, 36} {
				text, e := token.Escaped(x, s, base)
				if e == api.ErrNone && (!has(x, token.Multiple) || !has(x, token.Single)) {
					continue
				}
				behind := text
				if kind(x, ' ') == token.White {
					behind += " |"
				}
				k, end, d := token.Next(x, behind, 0)
				if e != api.OK || d != api.OK || end != len(text) || token.Text(k) != s || token.Dots(k) != 0 {
					t.Fatalf("Escaped(%v, %q) = %q, %v, read as %v, %v", x, s, text, e, k, d)
				}
				name, d := token.Split(k)
				if is, _ := token.Potential(s, base); is && !k.Escapes || d != api.OK || name != (token.Name{Kind: token.Symbol, Name: s}) {
					t.Fatalf("Escaped(%v, %q) = %q is no symbol", x, s, text)
				}
				count++
			}
		}
	}
	if count < 20000 {
		t.Errorf("%d names", count)
	}
}

func TestWritten(t *testing.T) {
	name := func(kind int, pack, s string) token.Name { return token.Name{Kind: kind, Package: pack, Name: s} }
	inverse := token.Table{Case: token.Invert}
	noBars := with(t, token.Invert, "|2")
	noSingle := with(t, token.Invert, "\\2")
	long := longText[1:]
	for _, c := range []struct {
		t    token.Table
		n    token.Name
		base int
		want string
		e    api.Errno
	}{
		{token.Table{}, name(token.Symbol, "", "X"), 10, "x", api.OK}, {token.Table{}, name(token.Symbol, "", ""), 10, "||", api.OK}, {token.Table{}, name(token.Keyword, "", "X"), 10, ":x", api.OK}, {token.Table{}, name(token.Keyword, "", ""), 10, ":||", api.OK}, {token.Table{}, name(token.Keyword, "", "12"), 10, ":|12|", api.OK}, {token.Table{}, name(token.External, "P", "X"), 10, "p:x", api.OK}, {token.Table{}, name(token.Internal, "P", "x"), 10, "p::|x|", api.OK}, {token.Table{}, name(token.Internal, "12", ":"), 10, "|12|::|:|", api.OK},
		{inverse, name(token.External, "FOO", "bar"), 10, "|FOO|:|bar|", api.OK}, {inverse, name(token.External, "FOO", "BAR"), 10, "foo:bar", api.OK}, {inverse, name(token.External, "Foo", "bar"), 10, "|Foo|:|bar|", api.OK}, {inverse, name(token.External, "Foo", "Bar"), 10, "Foo:Bar", api.OK}, {inverse, name(token.Internal, "foo", "12"), 10, "FOO::|12|", api.OK}, {inverse, name(token.Keyword, "", "foo"), 10, ":FOO", api.OK},
		{noBars, name(token.External, "FOO", "bar"), 10, "", api.ErrNone}, {noBars, name(token.External, "FOO", "BAR"), 10, "foo:bar", api.OK}, {noBars, name(token.Keyword, "", ""), 10, "", api.ErrNone}, {noBars, name(token.Symbol, "", "Foo"), 10, "Foo", api.OK}, {noSingle, name(token.External, "FOO", "bar"), 10, "|FOO|:|bar|", api.OK}, {noSingle, name(token.External, "FOO", "b|r"), 10, "", api.ErrNone},
		{with(t, token.Upcase, ":4"), name(token.External, "P", "X"), 10, "p:x", api.OK}, {with(t, token.Upcase, ":4"), name(token.Keyword, "", "X"), 10, "", api.ErrNone}, {with(t, token.Upcase, ":4"), name(token.Symbol, "", "X"), 10, "x", api.OK}, {with(t, token.Upcase, ":3"), name(token.Internal, "P", "X"), 10, "", api.ErrNone}, {with(t, token.Upcase, ":3"), name(token.Symbol, "", ":"), 10, "|:|", api.OK}, {with(t, token.Upcase, ":1"), name(token.External, "P", "X"), 10, "", api.ErrNone}, {with(t, token.Upcase, ":5"), name(token.Keyword, "", "X"), 10, "", api.ErrNone},
		{token.Table{}, name(token.Keyword, "P", "X"), 10, "", api.ErrArg}, {token.Table{}, name(token.Symbol, "P", "X"), 10, "", api.ErrArg}, {token.Table{}, name(token.External, "", "X"), 10, "", api.ErrArg}, {token.Table{}, name(token.Internal, "P", ""), 10, "", api.ErrArg}, {token.Table{}, name(4, "", "X"), 10, "", api.ErrArg}, {token.Table{}, name(-1, "", "X"), 10, "", api.ErrArg}, {token.Table{}, name(4, "", longText), 10, "", api.ErrArg},
		{token.Table{Entries: entries(65)}, name(4, "", ""), 1, "", api.ErrSize}, {token.Table{}, name(token.Internal, longText, "\xff"), 1, "", api.ErrSize}, {token.Table{}, name(token.Internal, "\xff", longText), 1, "", api.ErrForm}, {token.Table{}, name(token.Internal, "P", longText), 1, "", api.ErrArg}, {token.Table{}, name(token.Internal, "P", longText), 10, "", api.ErrSize}, {token.Table{}, name(token.Symbol, "", longText), 1, "", api.ErrSize}, {noBars, name(token.Internal, "", "x"), 10, "", api.ErrArg}, {with(t, token.Upcase, "|2:1"), name(token.Internal, "p", longText), 10, "", api.ErrNone}, {with(t, token.Upcase, ":1"), name(token.Internal, "p", "\xff"), 10, "", api.ErrForm},
		{token.Table{Case: token.Preserve}, name(token.Internal, "p", long), 10, "|p|::|" + long + "|", api.OK},
	} {
		if got, e := token.Written(c.t, c.n, c.base); got != c.want || e != c.e {
			t.Errorf("Written(%v, %.20v, %d) = %.30q, %v; expected %.30q, %v", c.t, c.n, c.base, got, e, c.want, c.e)
		}
	}
}

// P6.5
func TestSymbolsThereAndBack(t *testing.T) {
	var l []string
	for s := range words(40, 4) {
		l = append(l, s)
	}
	l = append(l, "foo", "FOO", "Foo", "12")
	count := 0
	for x := range tables(t) {
		for i, s := range l {
			for kind := token.Symbol; kind <= token.Internal; kind++ {
				n := token.Name{Kind: kind, Name: s}
				if kind >= token.External {
					n.Package = l[(i*7+3)%len(l)]
				}
				text, e := token.Written(x, n, 10)
				if e != api.OK {
					if !slices.Contains([]api.Errno{api.ErrNone, api.ErrArg}, e) || text != "" {
						t.Fatalf("Written(%v, %v): %v", x, n, e)
					}
					continue
				}
				k, end, e := token.Next(x, text, 0)
				if got, d := token.Split(k); got != n || d != api.OK || e != api.OK || end != len(text) {
					t.Fatalf("Written(%v, %v) = %q, read as %v, %v", x, n, text, got, e)
				}
				count++
			}
		}
	}
	if count < 10000 {
		t.Errorf("%d symbols", count)
	}
}
