package macro_test

import (
	"strconv"
	"strings"
	"testing"

	"commonform/api"
	"commonform/condition"
	"commonform/core"
	"commonform/forms"
	"commonform/lib"
	"commonform/loop"
	"commonform/macro"
	"commonform/meaning"
	"commonform/place"
	"commonform/printer"
	"commonform/reader"
)

// newWorld returns a world with the package READER, so that arguments of macros may have backquotes.
func newWorld(t *testing.T) *lib.World {
	t.Helper()
	w, e := lib.New(api.MaxWords, api.MaxWords)
	if e == api.OK {
		e = w.Symbols().Make("READER", nil, nil)
	}
	if e != api.OK {
		t.Fatal(e)
	}
	return w
}

// read returns the form of a text, with COMMON-LISP as the package; G0 is the fresh variable 0, and so on.
func read(t *testing.T, s string) api.Form {
	t.Helper()
	r, at, e := reader.One(reader.Standard("COMMON-LISP"), s)
	if e != api.OK {
		t.Fatalf("One(%q): %d, %v", s, at, e)
	}
	return named(r.Form)
}

func named(f api.Form) api.Form {
	if n, ok := strings.CutPrefix(f.Text, "G"); ok && f.Kind == api.FormSymbol {
		if _, err := strconv.Atoi(n); err == nil {
			return forms.Symbol("%", n)
		}
	}
	var kids []api.Form
	for _, k := range f.Kids {
		kids = append(kids, named(k))
	}
	f.Kids = kids
	return f
}

func text(f api.Form) string {
	s, e := printer.Text(f, true)
	if e != api.OK {
		return "?" + e.Error()
	}
	return s
}

// given returns a table with the macros of the layers 23 to 25.
func given() macro.Table {
	t := macro.New()
	add := func(expand macro.Expander, names ...string) {
		for _, name := range names {
			t.Expanders = append(t.Expanders, macro.Named{Name: name, Expand: expand})
		}
	}
	add(func(f api.Form, fresh int) (api.Form, int, api.Errno) { return place.Macro(place.Standard(), f, fresh) },
		"SETF", "PSETF", "INCF", "DECF", "PUSH", "PUSHNEW", "POP", "ROTATEF", "SHIFTF")
	add(loop.Macro, "LOOP")
	add(condition.Macro, "HANDLER-BIND", "RESTART-BIND", "HANDLER-CASE", "RESTART-CASE", "IGNORE-ERRORS", "WITH-SIMPLE-RESTART", "DEFINE-CONDITION", "ASSERT", "CHECK-TYPE")
	return t
}

// all expands a form whose expansion has no error.
func all(t *testing.T, w *lib.World, table macro.Table, s string) api.Form {
	t.Helper()
	f, _, end := macro.All(w, table, read(t, s), 0)
	if end.Kind != lib.EndValues || len(end.Values) != 0 {
		t.Fatalf("All(%s) ends with %v", s, end)
	}
	return f
}

// A session performs forms one by one, as a program does.
type session struct {
	t     *testing.T
	w     *lib.World
	table macro.Table
	fresh int
}

func newSession(t *testing.T) *session {
	return &session{t: t, w: newWorld(t), table: given()}
}

// do performs a form, and tells what comes of it.
func (s *session) do(source string) string {
	s.t.Helper()
	f := read(s.t, source)
	table, fresh, is, end := macro.Define(s.w, s.table, f, s.fresh)
	if end.Kind != lib.EndValues {
		return s.told(end)
	}
	if is {
		s.table, s.fresh = table, fresh
	}
	f, fresh, end = macro.All(s.w, s.table, f, s.fresh)
	if end.Kind != lib.EndValues {
		return s.told(end)
	}
	s.fresh = fresh
	c, e := core.Convert(f, s.table.Specials)
	if e != api.OK {
		return "convert " + e.Error()
	}
	end, _ = meaning.Run(s.w, c, api.MaxSteps)
	return s.told(end)
}

func (s *session) told(end lib.End) string {
	var parts []string
	values := end.Values
	switch end.Kind {
	case lib.EndFault:
		parts, values = []string{"!", end.Fault.Type}, end.Fault.Data
	case lib.EndLimit:
		return "limit " + end.Code.Error()
	case lib.EndBad:
		return "bad " + end.Code.Error()
	}
	for _, x := range values {
		f, e := s.w.Show(x)
		if e == api.OK {
			f, e = forms.Plain(f)
		}
		if e != api.OK {
			s.t.Fatal(e)
		}
		parts = append(parts, text(f))
	}
	return strings.Join(parts, " ")
}

// expect performs forms, and looks at what comes of the last one.
func (s *session) expect(want string, sources ...string) {
	s.t.Helper()
	got := ""
	for _, source := range sources {
		got = s.do(source)
	}
	if got != want {
		s.t.Errorf("%s: %s; want %s", strings.Join(sources, " "), got, want)
	}
}
