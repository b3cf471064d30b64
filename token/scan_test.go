package token_test

import (
	"slices"
	"strings"
	"testing"
	"unicode/utf8"

	"commonform/api"
	"commonform/token"
)

// scanned tells what Next has to return for a right readtable and a place ahead of a character.
func scanned(t token.Table, s string, at int) (token.Token, int, api.Errno) {
	l := []rune(s[at:])
	x := token.Token{}
	letters := "" // those that are not escaped
	i := 0
	escape := func() bool {
		if i == len(l) {
			return false
		}
		x.Chars, x.Escaped, x.Escapes = append(x.Chars, l[i]), append(x.Escaped, true), true
		i++
		return true
	}
	if k := kind(t, l[0]); k == token.White || k == token.Terminating || k == token.Nonterminating {
		return token.Token{}, 0, api.ErrArg
	}
	for i < len(l) && kind(t, l[i]) != token.White && kind(t, l[i]) != token.Terminating {
		c := l[i]
		i++
		switch kind(t, c) {
		case token.Invalid:
			return token.Token{}, 0, token.ErrInvalid
		case token.Single:
			if !escape() {
				return token.Token{}, 0, api.ErrEnd
			}
		case token.Multiple:
			x.Escapes = true
			for i < len(l) && kind(t, l[i]) != token.Multiple {
				if kind(t, l[i]) == token.Single {
					i++
				}
				if !escape() {
					return token.Token{}, 0, api.ErrEnd
				}
			}
			if i == len(l) {
				return token.Token{}, 0, api.ErrEnd
			}
			i++
		default:
			x.Chars, x.Escaped = append(x.Chars, c), append(x.Escaped, false)
			letters += string(c)
		}
	}
	change := []func(string) string{upper, lower, func(s string) string { return s }, invert}[t.Case]
	changed := []rune(change(letters))
	for n := range x.Chars {
		if !x.Escaped[n] {
			x.Chars[n] = changed[0]
			changed = changed[1:]
		}
	}
	return x, at + len(string(l[:i])), api.OK
}

func TestNext(t *testing.T) {
	check := func(x token.Table, s string, at int) {
		want, end, code := scanned(x, s, at)
		got, to, e := token.Next(x, s, at)
		if !sameTokens(got, want) || to != end || e != code {
			t.Fatalf("Next(%v, %q, %d) = %v, %d, %v; expected %v, %d, %v", x, s, at, got, to, e, want, end, code)
		}
	}
	for x := range tables(t) {
		for s := range texts("aB1|\\ :#\x01!", 3) {
			for at := range s {
				check(x, s, at)
			}
		}
		for s := range words(400, 12) {
			for at := range s {
				check(x, s, at)
			}
		}
	}
}

func TestNextExamples(t *testing.T) {
	for _, c := range []struct {
		s    string
		mode int
		want string // with a ' behind each escaped character
		end  int
	}{
		{"foo(bar)", token.Upcase, "FOO", 3}, {`a\(b c`, token.Upcase, "A('B", 4}, {"|a b|c", token.Upcase, "a' 'b'C", 6}, {"Foo", token.Invert, "Foo", 3}, {"foo", token.Invert, "FOO", 3}, {"FOO", token.Invert, "foo", 3}, {`FO\o`, token.Invert, "foo'", 4}, {`|a|FO`, token.Invert, "a'fo", 5}, {"é\\é ", token.Upcase, "éé'", 5}, {"||", token.Upcase, "", 2}, {"a#;", token.Upcase, "A#", 2}, {"a||b|c|", token.Downcase, "abc'", 7}, {"A.1+", token.Downcase, "a.1+", 4}, {"aB", token.Preserve, "aB", 2}, {"|\\||", token.Preserve, "|'", 4}, {"|\\a\\\\|", token.Upcase, "a'\\'", 6}, {"\\\x01|\x02|", token.Upcase, "\x01'\x02'", 5}, {"\\ ", token.Upcase, " '", 2}, {"aÀb", token.Upcase, "AÀB", 4}, {"ß", token.Upcase, "ß", 2},
	} {
		x, end, e := token.Next(token.Table{Case: c.mode}, c.s, 0)
		got := ""
		for i, r := range x.Chars {
			got += string(r)
			if x.Escaped[i] {
				got += "'"
			}
		}
		if got != c.want || end != c.end || e != api.OK || x.Escapes != strings.ContainsAny(c.s, `\|`) {
			t.Errorf("Next(%q) = %q, %v, %d, %v; expected %q, %d", c.s, got, x.Escapes, end, e, c.want, c.end)
		}
	}
}

func TestTextsAndPlaces(t *testing.T) {
	bad := token.Table{Entries: entries(65)}
	for _, c := range []struct {
		t    token.Table
		s    string
		at   int
		want api.Errno
	}{
		{bad, longText, -1, api.ErrSize}, {token.Table{Case: 5}, longText, 0, api.ErrArg}, {token.Table{}, longText, -1, api.ErrSize}, {token.Table{}, longText[1:] + "\xff", 0, api.ErrSize}, {token.Table{}, "a\xff", -1, api.ErrForm}, {token.Table{}, "\xed\xa0\x80", 0, api.ErrForm}, {token.Table{}, "a", -1, api.ErrArg}, {token.Table{}, "a", 2, api.ErrArg}, {token.Table{}, "é", 1, api.ErrArg}, {token.Table{}, "aé", 2, api.ErrArg}, {token.Table{}, "", 1, api.ErrArg},
	} {
		failsNext(t, c.t, c.s, c.at, c.want)
		if n, e := token.Skip(c.t, c.s, c.at); e != c.want || n != 0 {
			t.Errorf("Skip(%.10q, %d) = %d, %v; expected %v", c.s, c.at, n, e, c.want)
		}
		if token.Check(c.t) != api.OK {
			continue
		}
		if p, e := token.Where(c.s, c.at); e != c.want || p != (token.Place{}) {
			t.Errorf("Where(%.10q, %d) = %v, %v; expected %v", c.s, c.at, p, e, c.want)
		}
	}
}

func failsNext(t *testing.T, x token.Table, s string, at int, want api.Errno) {
	t.Helper()
	if k, end, e := token.Next(x, s, at); e != want || end != 0 || !isZeroToken(k) {
		t.Errorf("Next(%.10q, %d) = %v, %d, %v; expected %v", s, at, k, end, e, want)
	}
}

func TestNextFails(t *testing.T) {
	for s, want := range map[string]api.Errno{" x": api.ErrArg, "'x": api.ErrArg, "#x": api.ErrArg, "": api.ErrNone, "\x01": token.ErrInvalid, "a\x7f|": token.ErrInvalid, "\\": api.ErrEnd, "|\\": api.ErrEnd, "|\x01": api.ErrEnd, "a|b\\|": api.ErrEnd} {
		failsNext(t, token.Table{}, s, 0, want)
	}
	failsNext(t, token.Table{}, "a", 1, api.ErrNone)
	if x, end, e := token.Next(token.Table{}, longText[1:], 0); len(x.Chars) != api.MaxSource || end != api.MaxSource || e != api.OK {
		t.Errorf("Next of 4000 characters: %d, %v", end, e)
	}
}

func TestSkip(t *testing.T) {
	for x := range tables(t) {
		for s := range words(200, 6) {
			for at := range s + "." {
				want := at
				for want < len(s) {
					c, size := utf8.DecodeRuneInString(s[want:])
					if kind(x, c) != token.White {
						break
					}
					want += size
				}
				if got, e := token.Skip(x, s, at); got != want || e != api.OK {
					t.Fatalf("Skip(%v, %q, %d) = %d, %v; expected %d", x, s, at, got, e, want)
				}
			}
		}
	}
}

// P6.3
func TestEnds(t *testing.T) {
	for x := range tables(t) {
		for s := range words(500, 8) {
			k, end, e := token.Next(x, s, 0)
			if e != api.OK {
				continue
			}
			if !k.Escapes && len(k.Chars) != utf8.RuneCountInString(s[:end]) {
				t.Fatalf("Next(%v, %q) takes %d bytes for %v", x, s, end, k)
			}
			same := func(text string, at int) {
				if l, to, e := token.Next(x, text, at); !sameTokens(l, k) || to != at+end || e != api.OK {
					t.Fatalf("Next(%v, %q, %d) = %v, %d, %v; expected %v", x, text, at, l, to, e, k)
				}
			}
			same(s[:end], 0)
			same("|(\\\x01é"+s, 6)
			if kind(x, ' ') == token.White {
				same(s[:end]+" |\x01", 0)
			}
		}
	}
}

// P6.4
func TestCases(t *testing.T) {
	for s := range words(3000, 8) {
		for _, mode := range cases {
			x := token.Table{Case: mode}
			k, end, e := token.Next(x, s, 0)
			if e != api.OK {
				continue
			}
			for i, c := range k.Chars {
				isWrong := mode == token.Upcase && c >= 'a' && c <= 'z' || mode == token.Downcase && c >= 'A' && c <= 'Z'
				if !k.Escaped[i] && isWrong {
					t.Fatalf("Next(%v, %q) = %v", x, s, k)
				}
			}
			if mode == token.Preserve && !k.Escapes && string(k.Chars) != s[:end] {
				t.Fatalf("Next(%v, %q) = %v", x, s, k)
			}
			name := token.Text(k)
			back, e := token.Back(x, name)
			if e != api.OK || mode != token.Invert || k.Escapes {
				continue
			}
			if l, _, e := token.Next(x, back, 0); e != api.OK || token.Text(l) != name {
				t.Fatalf("Back(%v, %q) = %q, read as %v, %v", x, name, back, l, e)
			}
		}
	}
}

func TestPlain(t *testing.T) {
	for s := range words(500, 6) {
		x, e := token.Plain(s)
		if e != api.OK || string(x.Chars) != s || x.Escapes || len(x.Escaped) != len(x.Chars) || slices.Contains(x.Escaped, true) || token.Text(x) != s {
			t.Fatalf("Plain(%q) = %v, %v", s, x, e)
		}
	}
	for s, want := range map[string]api.Errno{longText: api.ErrSize, longText + "\xff": api.ErrSize, "\xff": api.ErrForm} {
		if x, e := token.Plain(s); e != want || !isZeroToken(x) {
			t.Errorf("Plain(%.10q): %v", s, e)
		}
	}
}

// wrong are tokens that are not right.
func wrong() []token.Token {
	return []token.Token{
		{Chars: []rune("a")}, {Escaped: []bool{false}}, {Chars: []rune(".."), Escaped: []bool{false}}, {Chars: []rune("."), Escaped: []bool{true}}, {Chars: []rune{-1}, Escaped: []bool{false}}, {Chars: []rune{0xd800}, Escaped: []bool{false}}, {Chars: []rune{'.', 0x110000}, Escaped: make([]bool, 2), Escapes: true},
		{Chars: make([]rune, api.MaxSource+1), Escaped: make([]bool, api.MaxSource+1)},
	}
}

func TestWrongTokens(t *testing.T) {
	for _, x := range wrong() {
		name, e := token.Split(x)
		if token.Text(x) != "" || token.Dots(x) != 0 || e != api.ErrArg || name != (token.Name{}) {
			t.Errorf("%v is taken for a token", x)
		}
	}
	x := token.Token{Chars: []rune(strings.Repeat("é", api.MaxSource)), Escaped: make([]bool, api.MaxSource)}
	if name, e := token.Split(x); e != api.OK || name.Name != string(x.Chars) || token.Text(x) != name.Name {
		t.Errorf("Split of 4000 characters: %v", e)
	}
}

func TestDots(t *testing.T) {
	for s, want := range map[string]int{".": 1, "..": 2, "...": 3, "....": 4, "": 0, "a": 0, ".a": 0, "a..": 0, "\\.": 0, "|..|": 0, "..||": 0, ".\\.": 0} {
		x, _, _ := token.Next(token.Table{}, s, 0)
		if got := token.Dots(x); got != want {
			t.Errorf("Dots of %q = %d; expected %d", s, got, want)
		}
	}
}

func TestSplit(t *testing.T) {
	symbol := func(s string) token.Name { return token.Name{Kind: token.Symbol, Name: s} }
	key := func(s string) token.Name { return token.Name{Kind: token.Keyword, Name: s} }
	name := func(kind int, pack, s string) token.Name { return token.Name{Kind: kind, Package: pack, Name: s} }
	for _, c := range []struct {
		s    string
		want token.Name
		e    api.Errno
	}{
		{"x", symbol("X"), api.OK}, {"||", symbol(""), api.OK}, {`\:x`, symbol(":X"), api.OK}, {`|a:b:c|`, symbol("a:b:c"), api.OK}, {`\.`, symbol("."), api.OK}, {"..||", symbol(".."), api.OK}, {"1", symbol("1"), api.OK},
		{":x", key("X"), api.OK}, {":||", key(""), api.OK}, {":|a:|", key("a:"), api.OK}, {`:\:`, key(":"), api.OK}, {":.", key("."), api.OK}, {"||:x", key("X"), api.OK}, {"||:", key(""), api.OK}, {"::", token.Name{}, token.ErrMarker},
		{"pkg:x", name(token.External, "PKG", "X"), api.OK}, {"p:|:|", name(token.External, "P", ":"), api.OK}, {`\::x`, name(token.External, ":", "X"), api.OK}, {".:.", name(token.External, ".", "."), api.OK},
		{"pkg::x", name(token.Internal, "PKG", "X"), api.OK}, {`\:::x`, name(token.Internal, ":", "X"), api.OK}, {"|a b|::|c d|", name(token.Internal, "a b", "c d"), api.OK}, {`a::\:`, name(token.Internal, "A", ":"), api.OK},
		{"a:b:c", token.Name{}, token.ErrMarker}, {"a:", token.Name{}, token.ErrMarker}, {"a::", token.Name{}, token.ErrMarker}, {":::x", token.Name{}, token.ErrMarker}, {"::x", token.Name{}, token.ErrMarker}, {":", token.Name{}, token.ErrMarker}, {"a:||", token.Name{}, token.ErrMarker}, {"a::||", token.Name{}, token.ErrMarker}, {"||::a", token.Name{}, token.ErrMarker}, {":a:", token.Name{}, token.ErrMarker}, {":a:b", token.Name{}, token.ErrMarker}, {"a:::b", token.Name{}, token.ErrMarker}, {"a::b:c", token.Name{}, token.ErrMarker}, {"a:b::c", token.Name{}, token.ErrMarker}, {`a:\::b`, token.Name{}, token.ErrMarker},
		{".", token.Name{}, token.ErrDots}, {"...", token.Name{}, token.ErrDots},
	} {
		x, end, _ := token.Next(token.Table{}, c.s, 0)
		if got, e := token.Split(x); got != c.want || e != c.e || end != len(c.s) {
			t.Errorf("Split of %q = %v, %v; expected %v, %v", c.s, got, e, c.want, c.e)
		}
	}
	if got, e := token.Split(token.Token{}); got != (token.Name{}) || e != api.OK {
		t.Errorf("Split of no characters = %v, %v", got, e)
	}
}

// P6.6
func TestMarkers(t *testing.T) {
	count := 0
	for s := range texts("aB:.\\|", 6) {
		x, end, e := token.Next(token.Table{}, s, 0)
		if e != api.OK || end != len(s) {
			continue
		}
		marks := 0
		for i, c := range x.Chars {
			if c == ':' && !x.Escaped[i] {
				marks++
			}
		}
		name, e := token.Split(x)
		isDots := strings.Trim(s, ".") == ""
		if (e == token.ErrDots) != isDots || marks == 0 && !isDots && (e != api.OK || name.Kind != token.Symbol || name.Name != token.Text(x)) {
			t.Fatalf("Split of %q = %v, %v", s, name, e)
		}
		if e != api.OK || name.Kind == token.Symbol {
			continue
		}
		count++
		between := map[int]string{token.Keyword: ":", token.External: ":", token.Internal: "::"}[name.Kind]
		if name.Package+between+name.Name != token.Text(x) || marks != len(between) || (name.Kind == token.Keyword) != (name.Package == "") {
			t.Fatalf("Split of %q = %v", s, name)
		}
	}
	if count < 100 {
		t.Errorf("%d names with markers", count)
	}
}

// P6.7
func TestWhere(t *testing.T) {
	for _, c := range []struct {
		s    string
		at   int
		want token.Place
	}{{"ab\ncde", 4, token.Place{2, 2}}, {"", 0, token.Place{1, 1}}, {"\n\n", 2, token.Place{3, 1}}, {"é\té", 3, token.Place{1, 3}}, {"a\r\nb", 2, token.Place{1, 3}}, {"a\n", 1, token.Place{1, 2}}, {"日\n本x", 7, token.Place{2, 2}}} {
		if got, e := token.Where(c.s, c.at); got != c.want || e != api.OK {
			t.Errorf("Where(%q, %d) = %v, %v; expected %v", c.s, c.at, got, e, c.want)
		}
	}
	for s := range words(500, 12) {
		last := token.Place{1, 0}
		for at := range s + "." {
			p, e := token.Where(s, at)
			isAhead := p.Line < last.Line || p.Line == last.Line && p.Column <= last.Column
			if e != api.OK || isAhead || at > 0 && (s[at-1] == '\n') != (p.Line == last.Line+1) || p.Line > last.Line+1 {
				t.Fatalf("Where(%q, %d) = %v, behind %v", s, at, p, last)
			}
			if p.Line > last.Line && p.Column != 1 || p.Line == last.Line && p.Column != last.Column+1 {
				t.Fatalf("Where(%q, %d) = %v, behind %v", s, at, p, last)
			}
			last = p
		}
	}
}
