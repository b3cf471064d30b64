package printer_test

import (
	"math"
	"strings"
	"testing"

	"commonform/api"
	"commonform/forms"
	"commonform/printer"
	"commonform/token"
)

var (
	longName  = strings.Repeat("a", 101)
	longTable = token.Table{Entries: make([]token.Entry, 65)}
)

func TestOptions(t *testing.T) {
	o := printer.Standard("X")
	if o.Base != 10 || o.Package != "X" || !o.Escape || !o.Array || !o.Abbrev || o.Length != -1 || o.Level != -1 || o.Radix || o.Double || o.Readable || o.Circle || len(o.Uses)+len(o.External)+len(o.Table.Entries)+o.Table.Case != 0 || printer.Check(o) != api.OK {
		t.Errorf("Standard = %v", o)
	}
	right := func(change func(o *printer.Options)) printer.Options {
		o := printer.Standard("P")
		change(&o)
		return o
	}
	uses := strings.Split(strings.Repeat("A ", 63)+"A", " ")
	for i, c := range []struct {
		o    printer.Options
		want api.Errno
	}{
		{right(func(o *printer.Options) { o.Base, o.Length, o.Level, o.Uses = 2, 0, math.MaxInt, uses }), api.OK}, {right(func(o *printer.Options) { o.External = make([]printer.External, 1000); o.Package = longName[1:] }), api.OK}, {right(func(o *printer.Options) { o.Uses = []string{"", ""} }), api.OK},
		{right(func(o *printer.Options) { o.Table, o.Base = longTable, 0 }), api.ErrSize}, {right(func(o *printer.Options) { o.Table.Case = 4 }), api.ErrArg},
		{right(func(o *printer.Options) { o.Base = 1 }), api.ErrArg}, {right(func(o *printer.Options) { o.Base = 37 }), api.ErrArg}, {right(func(o *printer.Options) { o.Package = "" }), api.ErrArg}, {right(func(o *printer.Options) { o.Length = -2 }), api.ErrArg}, {right(func(o *printer.Options) { o.Level = -2 }), api.ErrArg}, {right(func(o *printer.Options) { o.Level, o.Uses = math.MinInt, append(uses, "B") }), api.ErrArg}, {printer.Options{}, api.ErrArg},
		{right(func(o *printer.Options) { o.Uses, o.Package = append(uses, "B"), "\xff" }), api.ErrSize}, {right(func(o *printer.Options) { o.External, o.Uses = make([]printer.External, 1001), []string{"\xff"} }), api.ErrSize},
		{right(func(o *printer.Options) { o.Package = "\xff" }), api.ErrForm}, {right(func(o *printer.Options) { o.Package = longName }), api.ErrForm}, {right(func(o *printer.Options) { o.Uses = []string{"A", longName} }), api.ErrForm}, {right(func(o *printer.Options) { o.Uses = []string{"\xff"} }), api.ErrForm}, {right(func(o *printer.Options) { o.External = []printer.External{{Home: "\xff"}} }), api.ErrForm}, {right(func(o *printer.Options) { o.External = []printer.External{{}, {Name: longName}} }), api.ErrForm}, {right(func(o *printer.Options) { o.External = []printer.External{{Home: longName}} }), api.ErrForm}, {right(func(o *printer.Options) { o.External = []printer.External{{Name: "a\xff"}} }), api.ErrForm},
	} {
		if e := printer.Check(c.o); e != c.want {
			t.Errorf("Check of %d: %v; expected %v", i, e, c.want)
		}
		if c.want == api.OK {
			continue
		}
		for name, call := range calls(c.o, api.Form{}, "\xff", -1) {
			if s, e := call(); s != "" || e != c.want {
				t.Errorf("%s with the options %d = %q, %v; expected %v", name, i, s, e, c.want)
			}
		}
	}
}

// calls returns the calls of all functions with options that return a text.
func calls(o printer.Options, f api.Form, s string, c rune) map[string]func() (string, api.Errno) {
	return map[string]func() (string, api.Errno){
		"Symbol":    func() (string, api.Errno) { return printer.Symbol(o, f) },
		"Character": func() (string, api.Errno) { return printer.Character(o, c) },
		"String":    func() (string, api.Errno) { return printer.String(o, s) },
		"Print":     func() (string, api.Errno) { return printer.Print(o, f) },
		"Lines":     func() (string, api.Errno) { return printer.Lines(o, []api.Form{f}) },
	}
}

func TestReadablyOptions(t *testing.T) {
	o := printer.Options{Table: token.Table{Entries: []token.Entry{{Char: '!', Kind: token.Single}}, Case: token.Invert}, Base: 7, Radix: true, Double: true, Package: "P", Length: 3, Level: 4, Uses: []string{"A"}, External: []printer.External{{Home: "H", Name: "N"}}}
	x := printer.Readably(o)
	if !x.Escape || !x.Readable || !x.Circle || !x.Array || x.Abbrev || x.Length != -1 || x.Level != -1 || x.Base != 7 || !x.Radix || !x.Double || x.Package != "P" || x.Table.Case != token.Invert || x.Table.Entries[0] != o.Table.Entries[0] || x.Uses[0] != "A" || x.External[0] != o.External[0] {
		t.Errorf("Readably = %v", x)
	}
	if o.Escape || o.Length != 3 {
		t.Error("an argument was changed")
	}
	x.Table.Entries[0].Char, x.Uses[0], x.External[0].Name = 'x', "x", "x"
	if o.Table.Entries[0].Char != '!' || o.Uses[0] != "A" || o.External[0].Name != "N" {
		t.Error("a result shares memory with an argument")
	}
	if printer.Check(printer.Readably(printer.Options{})) != api.ErrArg {
		t.Error("wrong options are right")
	}
}

func TestSymbol(t *testing.T) {
	o := usual()
	o.External = []printer.External{{Home: "Q", Name: "E"}, {Home: "P", Name: "A"}, {Home: "KEYWORD", Name: "K"}, {Home: "Q", Name: ""}}
	bare, hex, inverse, noBars := o, o, o, o
	bare.Escape = false
	hex.Base = 16
	inverse.Table.Case = token.Invert
	noBars.Table = table(t, "|2")
	for _, c := range []struct {
		o          printer.Options
		home, name string
		want       string
		e          api.Errno
	}{
		{o, "P", "FOO", "foo", api.OK}, {o, "P", "foo", "|foo|", api.OK}, {o, "P", "A", "a", api.OK}, {o, "COMMON-LISP", "CAR", "car", api.OK}, {o, "KEYWORD", "BAR", ":bar", api.OK}, {o, "KEYWORD", "K", ":k", api.OK}, {o, "Q", "E", "q:e", api.OK}, {o, "Q", "F", "q::f", api.OK}, {o, "", "X", "#:x", api.OK}, {o, "", "", "#:||", api.OK}, {o, "", "a:b", "#:|a:b|", api.OK}, {o, "", "12", "#:|12|", api.OK}, {o, "P", "", "||", api.OK}, {o, "KEYWORD", "", ":||", api.OK}, {o, "q r", "12", "|q r|::|12|", api.OK}, {o, "P", "FF", "ff", api.OK}, {hex, "P", "FF", "|FF|", api.OK}, {hex, "FF", "GH", "|FF|::gh", api.OK}, {hex, "P", "FG", "|FG|", api.OK},
		{bare, "P", "FOO", "foo", api.OK}, {bare, "Q", "FoO", "foo", api.OK}, {bare, "KEYWORD", "A:B C", "a:b c", api.OK}, {bare, "", "|x|", "|x|", api.OK}, {bare, "Q", "", "", api.OK}, {inverse, "Q", "bar", "|Q|::|bar|", api.OK}, {inverse, "Q", "BAR", "q::bar", api.OK},
		{o, "Q", "", "", api.ErrArg}, {noBars, "P", "a", "", api.ErrNone}, {noBars, "", "12", "", api.ErrNone}, {noBars, "q", "A", "", api.ErrNone}, {o, "P", strings.Repeat("A", 4001), "", api.ErrSize}, {bare, "P", strings.Repeat("A", 4001), "", api.ErrSize}, {o, strings.Repeat("A", 4001), "A", "", api.ErrSize}, {o, "P", "\xff", "", api.ErrForm}, {o, "\xff", "A", "", api.ErrForm}, {bare, "\xff", "A", "", api.ErrForm},
	} {
		f := forms.Symbol(c.home, c.name)
		if got, e := printer.Symbol(c.o, f); got != c.want || e != c.e {
			t.Errorf("Symbol(%.20q of %.20q) = %q, %v; expected %q, %v", c.name, c.home, got, e, c.want, c.e)
		}
		if got, e := printer.Print(c.o, f); got != c.want || e != c.e {
			t.Errorf("Print(%.20q of %.20q) = %q, %v; expected %q, %v", c.name, c.home, got, e, c.want, c.e)
		}
	}
	for _, c := range []struct {
		f    api.Form
		want api.Errno
	}{{api.Form{}, api.ErrType}, {node(api.FormInt, "x"), api.ErrType}, {node(api.FormLabel, "1", forms.Nil()), api.ErrType}, {node(api.FormSymbol, "A", forms.Nil()), api.ErrForm}} {
		if got, e := printer.Symbol(o, c.f); got != "" || e != c.want {
			t.Errorf("Symbol(%v) = %q, %v; expected %v", c.f, got, e, c.want)
		}
	}
	if got, e := printer.Symbol(printer.Standard("COMMON-LISP-USER"), forms.Symbol("COMMON-LISP", "CAR")); got != "common-lisp::car" || e != api.OK {
		t.Errorf("Symbol of CAR = %q, %v", got, e)
	}
}

func TestCharacter(t *testing.T) {
	o := usual()
	bare := o
	bare.Escape = false
	named := map[rune]string{0: "Null", 8: "Backspace", 9: "Tab", 10: "Newline", 12: "Page", 13: "Return", 32: "Space", 127: "Rubout", 1: "U0001", 7: "U0007", 11: "U000B", 27: "U001B", 31: "U001F", 128: "U0080", 133: "U0085", 159: "U009F", 160: "\u00a0", 'a': "a", 'A': "A", '(': "(", '\\': "\\", 'é': "é", 0x1f600: "\U0001F600", 0x10ffff: "\U0010FFFF", 0x3000: "\u3000", 0xfffd: "\ufffd"}
	for c, want := range named {
		if got, e := printer.Character(o, c); got != "#\\"+want || e != api.OK {
			t.Errorf("Character(%x) = %q, %v; expected %q", c, got, e, want)
		}
		if got, e := printer.Character(bare, c); got != string(c) || e != api.OK {
			t.Errorf("Character(%x) without Escape = %q, %v", c, got, e)
		}
	}
	for _, c := range []rune{-1, 0xd800, 0xdfff, 0x110000, math.MinInt32} {
		if got, e := printer.Character(o, c); got != "" || e != api.ErrArg {
			t.Errorf("Character(%x) = %q, %v", c, got, e)
		}
	}
}

func TestString(t *testing.T) {
	o := usual()
	bare, other, none, both, least := o, o, o, o, o
	bare.Escape = false
	other.Table = table(t, "!5\\2")
	none.Table = table(t, "\\2")
	both.Table = table(t, "~5")
	least.Table = table(t, "~5!5$5")
	for _, c := range []struct {
		o       printer.Options
		s, want string
		e       api.Errno
	}{
		{o, "", `""`, api.OK}, {o, `a"b\c|d`, `"a\"b\\c|d"`, api.OK}, {o, "é\n", "\"é\n\"", api.OK}, {bare, `a"b`, `a"b`, api.OK}, {bare, "", "", api.OK}, {other, `a"!\`, `"a!"!!\"`, api.OK}, {none, "a\\", `"a\"`, api.OK}, {least, "\\$", `"!\!$"`, api.OK}, {both, `~\`, `"\~\\"`, api.OK},
		{none, `"`, "", printer.ErrReadable}, {o, "\xff", "", api.ErrForm}, {bare, "\xff", "", api.ErrForm}, {none, "\"\xff", "", api.ErrForm}, {o, strings.Repeat("a", 99998), `"` + strings.Repeat("a", 99998) + `"`, api.OK}, {o, strings.Repeat("a", 99999), "", api.ErrLarge}, {bare, strings.Repeat("a", 100000), strings.Repeat("a", 100000), api.OK}, {bare, strings.Repeat("a", 100001), "", api.ErrLarge}, {o, strings.Repeat("\\", 50000), "", api.ErrLarge}, {none, strings.Repeat("a", 100001) + `"`, "", printer.ErrReadable}, {bare, strings.Repeat("a", 100001) + "\xff", "", api.ErrForm},
	} {
		if got, e := printer.String(c.o, c.s); got != c.want || e != c.e {
			t.Errorf("String(%.20q) = %.20q, %v; expected %.20q, %v", c.s, got, e, c.want, c.e)
		}
	}
}
