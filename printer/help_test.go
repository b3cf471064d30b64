package printer_test

import (
	"math/rand"
	"strconv"
	"strings"
	"testing"

	"commonform/api"
	"commonform/forms"
	"commonform/printer"
	"commonform/reader"
	"commonform/token"
)

// usual are the options with which most texts here are written.
func usual() printer.Options {
	o := printer.Standard("P")
	o.Uses = []string{"COMMON-LISP"}
	return o
}

// read returns the form of a text, with P as the package; the symbols NIL, QUOTE, FUNCTION, LIST and DEFUN are those of COMMON-LISP.
func read(t *testing.T, s string) api.Form {
	t.Helper()
	r, at, e := reader.One(reader.Standard("P"), s)
	if e != api.OK {
		t.Fatalf("One(%q): %d, %v", s, at, e)
	}
	return common(r.Form)
}

func common(f api.Form) api.Form {
	if f.Kind == api.FormSymbol && f.Home == "P" {
		switch f.Text {
		case "NIL", "QUOTE", "FUNCTION", "LIST", "DEFUN":
			f.Home = "COMMON-LISP"
		}
	}
	for i, k := range f.Kids {
		f.Kids[i] = common(k)
	}
	return f
}

func node(kind int, text string, kids ...api.Form) api.Form {
	return api.Form{Kind: kind, Text: text, Kids: kids}
}

// table returns a readtable in which characters are of other kinds: pairs of a character and the digit of a kind.
func table(t *testing.T, pairs string) token.Table {
	t.Helper()
	x := token.Table{}
	l := []rune(pairs)
	for i := 0; i < len(l); i += 2 {
		y, e := token.Set(x, l[i], int(l[i+1]-'0'))
		if e != api.OK {
			t.Fatalf("Set of %q: %v", l[i], e)
		}
		x = y
	}
	return x
}

var (
	homes   = []string{"P", "P", "P", "Q", "COMMON-LISP", "KEYWORD", "READER", "", "q r", "A:B", "12"}
	symbols = []string{"A", "B", "FOO", "foo", "Foo", "", "12", "1+", "..", ".", "A B", ":", "A:B", "@X", "@", "|", "\\", "é", "NIL", "QUOTE", "FUNCTION", "COMMA", "SPLICE", "BACKQUOTE", "A;B", "FF", "1E5", "!A$", "#A", "A#", "(", "\x01", "+", "-", "'", "~", "A\nB", "%=*"}
	texts   = []string{"", "a", "a\"b", "\\", "a\\\"", "é!$~", "\n ;|#", "@"}
	chars   = []string{"a", "A", "(", " ", "\n", "\x00", "\x7f", "\u0085", "é", "\"", "\\", "|", "#", "!", "@", "\U0001F600", "\t", "'", ";"}
	atoms   = []api.Form{node(api.FormInt, "0"), node(api.FormInt, "-255"), node(api.FormInt, "30477"), node(api.FormRatio, "1/2"), node(api.FormRatio, "-10/11"), node(api.FormSingle, "3f800000"), node(api.FormSingle, "80000000"), node(api.FormSingle, "7149f2ca"), node(api.FormDouble, "3ff8000000000000"), node(api.FormDouble, "0010000000000000"), node(api.FormComplex, "", node(api.FormInt, "1"), node(api.FormRatio, "2/3")), node(api.FormComplex, "", node(api.FormSingle, "3f800000"), node(api.FormSingle, "bf800000")), node(api.FormBits, ""), node(api.FormBits, "0110")}
)

func pick[T any](r *rand.Rand, l []T) T {
	return l[r.Intn(len(l))]
}

// A maker makes right forms with labels.
type maker struct {
	r    *rand.Rand
	made int
	open []string // the labels to which may be referred
}

func (m *maker) form(depth int) api.Form {
	if depth > 5 || m.r.Intn(3) == 0 {
		return m.atom()
	}
	switch m.r.Intn(9) {
	case 0, 1, 2:
		l := append(m.some(1+m.r.Intn(3), depth), m.form(depth+1))
		if m.r.Intn(2) == 0 {
			return forms.List(l)
		}
		return forms.Dotted(l[:len(l)-1], l[len(l)-1])
	case 3:
		return forms.List([]api.Form{forms.Symbol("COMMON-LISP", pick(m.r, []string{"QUOTE", "FUNCTION"})), m.form(depth + 1)})
	case 4:
		return forms.List([]api.Form{forms.Symbol("READER", pick(m.r, []string{"BACKQUOTE", "BACKQUOTE", "COMMA", "SPLICE"})), m.form(depth + 1)})
	case 5:
		return node(api.FormVector, "", m.some(m.r.Intn(4), depth)...)
	case 6:
		return m.array(depth)
	}
	return m.label(depth)
}

func (m *maker) some(n, depth int) []api.Form {
	var l []api.Form
	for range n {
		l = append(l, m.form(depth+1))
	}
	return l
}

func (m *maker) atom() api.Form {
	switch m.r.Intn(7) {
	case 0:
		return node(api.FormChar, pick(m.r, chars))
	case 1:
		return node(api.FormString, pick(m.r, texts))
	case 2:
		return pick(m.r, atoms)
	case 3:
		if len(m.open) > 0 {
			return node(api.FormRef, pick(m.r, m.open))
		}
	case 4:
		return forms.Nil()
	}
	return forms.Symbol(pick(m.r, homes), pick(m.r, symbols))
}

func (m *maker) array(depth int) api.Form {
	text := pick(m.r, []string{"", "2 1", "1 2", "2 2", "0 0", "2 0", "0 2", "1 1 2", "2 0 3", "1 1 1 1 1 1 1"})
	n := 1
	for _, word := range strings.Fields(text) {
		d, _ := strconv.Atoi(word)
		n *= d
	}
	return node(api.FormArray, text, m.some(n, depth)...)
}

func (m *maker) label(depth int) api.Form {
	m.made++
	text := strconv.Itoa(m.made * 3 % 1000)
	m.open = append(m.open, text)
	kid := m.form(depth + 1)
	if kid.Kind == api.FormLabel || kid.Kind == api.FormRef {
		// The label within is gone, perhaps with others.
		m.open = nil
		kid = node(api.FormString, pick(m.r, texts))
	}
	return node(api.FormLabel, text, kid)
}

// randomForms calls do with right forms.
func randomForms(n int, do func(r *rand.Rand, f api.Form)) {
	r := rand.New(rand.NewSource(8))
	for range n {
		m := &maker{r: r}
		if f := m.form(0); forms.Check(f) == api.OK {
			do(r, f)
		}
	}
}

// randomOptions returns options without an error.
func randomOptions(r *rand.Rand) printer.Options {
	o := printer.Standard(pick(r, []string{"P", "Q", "KEYWORD", "COMMON-LISP", "q r"}))
	o.Base = pick(r, []int{10, 10, 2, 16, 36})
	o.Radix, o.Double, o.Abbrev = r.Intn(3) == 0, r.Intn(2) == 0, r.Intn(4) > 0
	o.External = []printer.External{{Home: "Q", Name: "A"}, {Home: "Q", Name: "foo"}, {Home: "READER", Name: "COMMA"}, {Home: "P", Name: "B"}}
	o.Table.Case = pick(r, []int{token.Upcase, token.Upcase, token.Downcase, token.Preserve, token.Invert})
	for range r.Intn(4) {
		o.Table, _ = token.Set(o.Table, pick(r, []rune("!$~@|\\%é=*&{}_^<")), r.Intn(7))
	}
	return o
}
