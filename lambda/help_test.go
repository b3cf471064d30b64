package lambda_test

import (
	"math/rand"
	"strconv"
	"strings"
	"testing"

	"commonform/api"
	"commonform/forms"
	"commonform/lambda"
	"commonform/printer"
	"commonform/reader"
)

// read returns the form of a text, with COMMON-LISP as the package.
func read(t *testing.T, s string) api.Form {
	t.Helper()
	r, at, e := reader.One(reader.Standard("COMMON-LISP"), s)
	if e != api.OK {
		t.Fatalf("One(%q): %d, %v", s, at, e)
	}
	return r.Form
}

// readAll returns the forms of a text.
func readAll(t *testing.T, s string) []api.Form {
	t.Helper()
	return read(t, "#("+s+")").Kids
}

func text(f api.Form) string {
	s, e := printer.Text(f, true)
	if e != api.OK {
		return "?"
	}
	return s
}

func texts(l []api.Form) string {
	var all []string
	for _, f := range l {
		all = append(all, text(f))
	}
	return strings.Join(all, " ")
}

// parse returns what a lambda list says that is right.
func parse(t *testing.T, s string, macro bool) lambda.List {
	t.Helper()
	l, e := lambda.Parse(read(t, s), macro)
	if e != api.OK {
		t.Fatalf("Parse(%s, %v): %v", s, macro, e)
	}
	return l
}

// describe writes all that a list says: of an init form nothing if it is NIL, and "none" if it is the zero form.
func describe(l lambda.List) string {
	var all []string
	for _, item := range l.Items {
		s := strconv.Itoa(item.Kind) + ":"
		if item.Pattern != nil {
			s += "[" + describe(*item.Pattern) + "]"
		} else {
			s += text(item.Var)
		}
		if item.Init.Kind == 0 {
			s += "=none"
		} else if !forms.IsNil(item.Init) {
			s += "=" + text(item.Init)
		}
		for _, f := range []struct {
			sign string
			form api.Form
		}{{"?", item.Given}, {"@", item.Key}} {
			if f.form.Kind != 0 {
				s += f.sign + text(f.form)
			}
		}
		all = append(all, s)
	}
	if l.Keys {
		all = append(all, "keys")
	}
	if l.Allow {
		all = append(all, "allow")
	}
	return strings.Join(all, " ")
}

// describeAll writes bindings.
func describeAll(l []lambda.Binding) string {
	var all []string
	for _, b := range l {
		s := text(b.Var) + "=" + text(b.Value)
		if b.Missing {
			s = text(b.Var) + "-"
			if !forms.IsNil(b.Value) {
				s += "?"
			}
		}
		all = append(all, s)
	}
	return strings.Join(all, " ")
}

// A maker makes lambda lists whose variables are all different.
type maker struct {
	r     *rand.Rand
	macro bool
	next  int
}

func (m *maker) variable() string {
	m.next++
	return "v" + strconv.Itoa(m.next)
}

// target makes a variable, or a pattern.
func (m *maker) target(depth int) string {
	if m.macro && depth > 0 && m.r.Intn(4) == 0 {
		return m.list(depth-1, true)
	}
	return m.variable()
}

func (m *maker) isOne(n int) bool { return m.r.Intn(n) == 0 }

// parameter makes an optional or a key parameter around what it binds.
func (m *maker) parameter(target string) string {
	switch m.r.Intn(4) {
	case 0:
		return "(" + target + " " + strconv.Itoa(m.r.Intn(9)) + ")"
	case 1:
		return "(" + target + " (list 1) " + m.variable() + ")"
	case 2:
		return "(" + target + " nil " + m.variable() + ")"
	}
	return "(" + target + ")"
}

func (m *maker) key(depth int) string {
	if m.isOne(2) {
		return m.parameter(m.variable())
	}
	keys := []string{":a", ":b", ":c", "d"}
	return m.parameter("(" + keys[m.next%4] + strconv.Itoa(m.next) + " " + m.target(depth) + ")")
}

// list makes a lambda list.
func (m *maker) list(depth int, inner bool) string {
	var s []string
	add := func(part string) {
		s = append(s, part)
		if m.macro && !inner && m.isOne(25) && !strings.Contains(strings.Join(s, " "), "&environment") {
			s = append(s, "&environment", m.variable())
		}
	}
	if m.macro && !inner && m.isOne(5) {
		s = append(s, "&whole", m.variable())
	}
	for range m.r.Intn(3) {
		add(m.target(depth))
	}
	if m.isOne(2) {
		add("&optional")
		for range m.r.Intn(3) {
			if m.isOne(2) {
				add(m.variable())
			} else {
				add(m.parameter(m.target(depth)))
			}
		}
	}
	if m.macro && len(s) > 0 && m.isOne(6) {
		return "(" + strings.Join(s, " ") + " . " + m.variable() + ")"
	}
	if m.isOne(3) {
		s = append(s, []string{"&rest", "&body"}[m.r.Intn(2)], m.variable())
	}
	if m.isOne(3) {
		add("&key")
		for range m.r.Intn(3) {
			add(m.key(depth))
		}
		if m.isOne(3) {
			add("&allow-other-keys")
		}
	}
	if m.isOne(4) {
		add("&aux")
		add(m.variable())
		add("(" + m.variable() + ")")
		add("(" + m.variable() + " 7)")
	}
	return "(" + strings.Join(s, " ") + ")"
}

// lists calls f with many lambda lists, and whether each is one for macros.
func lists(t *testing.T, f func(s string, macro bool, r *rand.Rand)) {
	t.Helper()
	for seed := range int64(600) {
		r := rand.New(rand.NewSource(seed))
		m := &maker{r: r, macro: seed%3 != 0}
		f(m.list(2, false), m.macro, r)
	}
}
