package meaning_test

import (
	"strconv"
	"strings"
	"testing"

	"commonform/api"
	"commonform/core"
	"commonform/forms"
	"commonform/heap"
	"commonform/lib"
	"commonform/meaning"
	"commonform/printer"
	"commonform/reader"
)

func newWorld(t *testing.T) *lib.World {
	t.Helper()
	w, e := lib.New(api.MaxWords, api.MaxWords)
	if e != api.OK {
		t.Fatal(e)
	}
	return w
}

// read returns the form of a text, with COMMON-LISP as the package.
func read(t *testing.T, s string) api.Form {
	t.Helper()
	r, at, e := reader.One(reader.Standard("COMMON-LISP"), s)
	if e != api.OK {
		t.Fatalf("One(%q): %d, %v", s, at, e)
	}
	return r.Form
}

// convert returns the tree of a form; SP and SQ are special everywhere.
func convert(t *testing.T, s string) api.Core {
	t.Helper()
	c, e := core.Convert(read(t, s), []api.Form{forms.Symbol("COMMON-LISP", "SP"), forms.Symbol("COMMON-LISP", "SQ")})
	if e != api.OK {
		t.Fatalf("Convert(%s): %v", s, e)
	}
	return c
}

// tree returns the tree of a text, in which 'X is a symbol of COMMON-LISP, :X one of KEYWORD, and #1 an integer.
func tree(t *testing.T, s string) api.Core {
	t.Helper()
	c, e := core.Parse(strings.NewReplacer(" '", " 1:COMMON-LISP:", "['", "[1:COMMON-LISP:", " :", " 1:KEYWORD:", "#", "2::").Replace(s))
	if e != api.OK {
		t.Fatalf("Parse(%s): %v", s, e)
	}
	return c
}

// shown returns the text of an object's form, in which nothing is shared.
func shown(w *lib.World, x heap.Word) string {
	f, e := w.Show(x)
	if e == api.OK {
		f, e = forms.Plain(f)
	}
	s, e2 := printer.Text(f, true)
	if e != api.OK || e2 != api.OK {
		return "?"
	}
	return s
}

func allShown(w *lib.World, l []heap.Word) string {
	var texts []string
	for _, x := range l {
		texts = append(texts, shown(w, x))
	}
	return strings.Join(texts, " ")
}

// told writes how a run ended.
func told(w *lib.World, e lib.End) string {
	switch e.Kind {
	case lib.EndValues:
		return allShown(w, e.Values)
	case lib.EndFault:
		return strings.TrimRight("! "+e.Fault.Type+" "+allShown(w, e.Fault.Data), " ")
	case lib.EndLimit:
		return "limit " + e.Code.Error()
	}
	return "bad " + e.Code.Error()
}

// run runs a form, and tells how it ends.
func run(t *testing.T, w *lib.World, s string) string {
	t.Helper()
	e, _ := meaning.Run(w, convert(t, s), api.MaxSteps)
	return told(w, e)
}

// A row is a form, and how it ends.
type row struct{ form, want string }

// check runs forms, each in a world of its own in which NOTE prints its argument and returns it.
func check(t *testing.T, rows []row) {
	t.Helper()
	for _, r := range rows {
		w := noting(t)
		got := run(t, w, r.form)
		if w.Output() != "" {
			got += " | " + w.Output()
		}
		if got != r.want {
			t.Errorf("%s is %s; want %s", r.form, got, r.want)
		}
	}
}

// noting returns a world with NOTE.
func noting(t *testing.T) *lib.World {
	t.Helper()
	w := newWorld(t)
	e := w.Register("NOTE", 1, 1, func(l []heap.Word) lib.Answer {
		if e := w.Print(shown(w, l[0]) + " "); e != api.OK {
			return lib.Answer{Kind: lib.AnswerLimit, Code: e}
		}
		return lib.Answer{Values: l}
	})
	if e != api.OK {
		t.Fatal(e)
	}
	return w
}

func symbol(t *testing.T, w *lib.World, name string) heap.Word {
	t.Helper()
	x, e := w.Symbol("COMMON-LISP", name)
	if e != api.OK {
		t.Fatal(e)
	}
	return x
}

func fix(n int) heap.Word {
	x, _ := heap.Fix(int64(n))
	return x
}

// value returns the one value of a form.
func value(t *testing.T, w *lib.World, s string) heap.Word {
	t.Helper()
	e, _ := meaning.Run(w, convert(t, s), api.MaxSteps)
	if e.Kind != lib.EndValues || len(e.Values) != 1 {
		t.Fatalf("%s is %s", s, told(w, e))
	}
	return e.Values[0]
}

func number(n int) string { return strconv.Itoa(n) }
