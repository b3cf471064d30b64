package forms_test

import (
	"fmt"
	"math/rand"
	"slices"
	"strconv"
	"strings"
	"testing"

	"commonform/api"
	"commonform/forms"
)

// read returns the form of a text in the manner of Lisp: symbols (of the package P, but NIL), integers and ratios, strings, characters like \a, #*01, lists, vectors like #(1 2), #A[2 1](1 2), #C(1 2), floats like #s3f800000 and #d followed by their digits, labels like #1= and references like #1#. The form may be a wrong one.
func read(t *testing.T, s string) api.Form {
	t.Helper()
	r := &reader{t, s, 0}
	f := r.form()
	if strings.TrimSpace(r.text[r.at:]) != "" {
		t.Fatalf("too much: %q", s)
	}
	return f
}

type reader struct {
	t    *testing.T
	text string
	at   int
}

func (r *reader) has(prefix string) bool {
	if !strings.HasPrefix(r.text[r.at:], prefix) {
		return false
	}
	r.at += len(prefix)
	return true
}

func (r *reader) until(stops string) string {
	n := strings.IndexAny(r.text[r.at:], stops)
	if n < 0 {
		n = len(r.text) - r.at
	}
	r.at += n
	return r.text[r.at-n : r.at]
}

func (r *reader) list() []api.Form {
	var l []api.Form
	for !r.has(")") {
		if r.at >= len(r.text) {
			r.t.Fatalf("no end: %q", r.text)
		}
		if r.has(" ") {
			continue
		}
		l = append(l, r.form())
	}
	return l
}

func (r *reader) form() api.Form {
	switch {
	case r.has("("):
		l := r.list()
		if len(l) == 0 {
			return symbol("NIL")
		}
		if n := len(l); n > 1 && l[n-2].Text == "." {
			return node(api.FormCons, "", append(l[:n-2:n-2], l[n-1])...)
		}
		return node(api.FormCons, "", append(l, symbol("NIL"))...)
	case r.has("#("):
		return node(api.FormVector, "", r.list()...)
	case r.has("#C("):
		return node(api.FormComplex, "", r.list()...)
	case r.has("#A["):
		dimensions := r.until("]")
		r.at += 2
		return node(api.FormArray, dimensions, r.list()...)
	case r.has("#*"):
		return node(api.FormBits, r.until(" )"))
	case r.has("#s"):
		return node(api.FormSingle, r.until(" )"))
	case r.has("#d"):
		return node(api.FormDouble, r.until(" )"))
	case r.has("\""):
		s := r.until("\"")
		r.at++
		return node(api.FormString, s)
	case r.has("\\"):
		return node(api.FormChar, r.until(" )"))
	case r.has("#"):
		label := r.until("=#")
		r.at++
		if r.text[r.at-1] == '#' {
			return node(api.FormRef, label)
		}
		return node(api.FormLabel, label, r.form())
	}
	word := r.until(" ()")
	switch {
	case word != "" && strings.Contains("-0123456789", word[:1]) && strings.Contains(word, "/"):
		return node(api.FormRatio, word)
	case word != "" && strings.Contains("-0123456789", word[:1]):
		return node(api.FormInt, word)
	}
	return symbol(word)
}

func symbol(name string) api.Form {
	name = strings.ToUpper(name)
	if name == "NIL" {
		return api.Form{Kind: api.FormSymbol, Text: "NIL", Home: "COMMON-LISP"}
	}
	return api.Form{Kind: api.FormSymbol, Text: name, Home: "P"}
}

func node(kind int, text string, kids ...api.Form) api.Form {
	return api.Form{Kind: kind, Text: text, Kids: kids}
}

// equal reports whether two trees are equal, without the package's help.
func equal(a, b api.Form) bool {
	return a.Kind == b.Kind && a.Text == b.Text && a.Home == b.Home && slices.EqualFunc(a.Kids, b.Kids, equal)
}

func equalAll(a, b []api.Form) bool {
	return slices.EqualFunc(a, b, equal)
}

func equalGraphs(a, b []forms.Node) bool {
	return slices.EqualFunc(a, b, func(m, n forms.Node) bool {
		return m.Kind == n.Kind && m.Text == n.Text && m.Home == n.Home && slices.Equal(m.Kids, n.Kids)
	})
}

// snapshot returns a text of all that a value has, to see whether it was changed.
func snapshot(x any) string {
	return fmt.Sprintf("%#v", x)
}

// spoil overwrites all that a form has in memory, also behind the ends of its lists.
func spoil(f api.Form) {
	kids := f.Kids[:cap(f.Kids)]
	for i := range kids {
		spoil(kids[i])
		kids[i] = api.Form{Kind: 99, Text: "spoilt"}
	}
}

func spoilGraph(g []forms.Node) {
	for i := range g {
		kids := g[i].Kids[:cap(g[i].Kids)]
		for j := range kids {
			kids[j] = -99
		}
		g[i].Text = "spoilt"
	}
}

// A maker makes random forms with labels, which are right ones.
type maker struct {
	r      *rand.Rand
	labels []string
	atoms  bool // labels of symbols, numbers and characters, too
	room   int
}

func randomForm(seed int64, room int, atoms bool) api.Form {
	m := &maker{r: rand.New(rand.NewSource(seed)), room: room, atoms: atoms}
	return m.form(0)
}

func (m *maker) atom() api.Form {
	switch m.r.Intn(8) {
	case 0:
		return node(api.FormChar, []string{"a", "b"}[m.r.Intn(2)])
	case 1:
		return node(api.FormRatio, "1/2")
	case 2:
		return node(api.FormSingle, "3f800000")
	case 3:
		return node(api.FormComplex, "", node(api.FormInt, "1"), node(api.FormInt, "2"))
	case 4:
		return node(api.FormInt, strconv.Itoa(m.r.Intn(2)))
	}
	return symbol([]string{"A", "B", "NIL"}[m.r.Intn(3)])
}

func (m *maker) form(depth int) api.Form {
	if len(m.labels) > 0 && m.r.Intn(5) == 0 {
		return node(api.FormRef, m.labels[m.r.Intn(len(m.labels))])
	}
	if len(m.labels) < 50 && m.r.Intn(3) == 0 {
		label := strconv.Itoa(m.r.Intn(1000))
		if !slices.Contains(m.labels, label) {
			m.labels = append(m.labels, label)
			return node(api.FormLabel, label, m.object(depth+1, m.atoms))
		}
	}
	return m.object(depth, true)
}

func (m *maker) object(depth int, atoms bool) api.Form {
	m.room--
	kind := m.r.Intn(9)
	if m.room < 0 || depth > 12 {
		kind = 3 + m.r.Intn(6)
	}
	switch {
	case kind == 0:
		return node(api.FormVector, "", m.list(depth, m.r.Intn(4))...)
	case kind == 1 && m.r.Intn(2) == 0:
		return node(api.FormArray, "2 1", m.list(depth, 2)...)
	case kind <= 2:
		l := m.list(depth, m.r.Intn(4)+1)
		tail := symbol("NIL")
		if m.r.Intn(2) == 0 {
			tail = m.form(depth + 1)
			if tail.Kind == api.FormCons {
				return node(api.FormCons, "", append(l, tail.Kids...)...)
			}
		}
		return node(api.FormCons, "", append(l, tail)...)
	case kind == 3 || !atoms && kind > 4:
		return node(api.FormString, []string{"x", "y"}[m.r.Intn(2)])
	case kind == 4:
		return node(api.FormBits, []string{"01", ""}[m.r.Intn(2)])
	}
	return m.atom()
}

func (m *maker) list(depth, n int) []api.Form {
	var l []api.Form
	for range n {
		l = append(l, m.form(depth+1))
	}
	return l
}

// randomForms calls f with many random forms, which Check takes.
func randomForms(t *testing.T, n int, f func(x api.Form)) {
	t.Helper()
	for seed := range n {
		x := randomForm(int64(seed), 5+seed%40, seed%3 > 0)
		if e := forms.Check(x); e != api.OK {
			t.Fatalf("Check of the form %d: %v", seed, e)
		}
		before := snapshot(x)
		f(x)
		if snapshot(x) != before {
			t.Fatalf("the form %d was changed", seed)
		}
	}
}

// relabel returns a form with other texts of its labels.
func relabel(f api.Form, texts map[string]string) api.Form {
	g := api.Form{Kind: f.Kind, Text: f.Text, Home: f.Home}
	if f.Kind == api.FormLabel || f.Kind == api.FormRef {
		if texts[f.Text] == "" {
			texts[f.Text] = strconv.Itoa(999 - len(texts))
		}
		g.Text = texts[f.Text]
	}
	for _, k := range f.Kids {
		g.Kids = append(g.Kids, relabel(k, texts))
	}
	return g
}

// count returns the nodes of a kind.
func count(f api.Form, kind int) int {
	n := 0
	if f.Kind == kind {
		n = 1
	}
	for _, k := range f.Kids {
		n += count(k, kind)
	}
	return n
}
