package loop_test

import (
	"strconv"
	"strings"
	"testing"

	"commonform/api"
	"commonform/core"
	"commonform/forms"
	"commonform/lib"
	"commonform/loop"
	"commonform/macro"
	"commonform/meaning"
	"commonform/printer"
	"commonform/reader"
)

// read returns the form of a text, with COMMON-LISP as the package; G0 is the fresh symbol 0, and so on.
func read(t *testing.T, s string) api.Form {
	t.Helper()
	r, at, e := reader.One(reader.Standard("COMMON-LISP"), s)
	if e != api.OK {
		t.Fatalf("One(%q): %d, %v", s, at, e)
	}
	return changed(r.Form, func(f api.Form) api.Form {
		if n, ok := strings.CutPrefix(f.Text, "G"); ok && f.Kind == api.FormSymbol {
			if _, err := strconv.Atoi(n); err == nil {
				return forms.Symbol("%", n)
			}
		}
		return f
	})
}

// changed returns a form with other nodes.
func changed(f api.Form, change func(api.Form) api.Form) api.Form {
	f = change(f)
	var kids []api.Form
	for _, k := range f.Kids {
		kids = append(kids, changed(k, change))
	}
	f.Kids = kids
	return f
}

func walk(f api.Form, do func(api.Form)) {
	do(f)
	for _, k := range f.Kids {
		walk(k, do)
	}
}

// moved returns a form whose fresh symbols have greater numbers.
func moved(f api.Form, by int) api.Form {
	return changed(f, func(f api.Form) api.Form {
		if n, err := strconv.Atoi(f.Text); err == nil && f.Home == "%" {
			f.Text = strconv.Itoa(n + by)
		}
		return f
	})
}

// spoil changes all nodes of a form.
func spoil(f api.Form) {
	for i := range f.Kids {
		spoil(f.Kids[i])
		f.Kids[i] = api.Form{Kind: api.FormInt, Text: "99"}
	}
}

func text(f api.Form) string {
	s, e := printer.Text(f, true)
	if e != api.OK {
		return "?" + e.Error()
	}
	return s
}

// describe writes clauses: each with its kind, its variable if it has one, its forms, and the clauses in it.
func describe(l []loop.Clause) string {
	names := [...]string{"", "named", "with", "initially", "finally", "arithmetic", "in", "on", "across", "equals", "repeat", "while", "until", "always", "never", "thereis",
		"do", "collect", "append", "sum", "count", "maximize", "minimize", "if", "unless", "return"}
	var all []string
	for _, c := range l {
		s := names[c.Kind]
		if c.Var.Kind != 0 {
			s += "=" + text(c.Var)
		}
		for _, f := range c.Forms {
			s += " " + text(f)
		}
		if len(c.Then) > 0 {
			s += " [" + describe(c.Then) + "]"
		}
		if len(c.Else) > 0 {
			s += " else [" + describe(c.Else) + "]"
		}
		all = append(all, s)
	}
	return strings.Join(all, "; ")
}

// run expands a form with LOOP, runs it, and returns its value.
func run(t *testing.T, source string) string {
	t.Helper()
	w, e := lib.New(api.MaxWords, api.MaxWords)
	if e != api.OK {
		t.Fatal(e)
	}
	table := macro.Table{Expanders: []macro.Named{{Name: "LOOP", Expand: loop.Macro}}}
	f, _, end := macro.All(w, table, read(t, source), 0)
	if end.Kind != lib.EndValues {
		t.Fatalf("All(%s): %v", source, end)
	}
	c, e := core.Convert(f, nil)
	if e != api.OK {
		t.Fatalf("Convert(%s): %v", text(f), e)
	}
	end, _ = meaning.Run(w, c, api.MaxSteps)
	if end.Kind != lib.EndValues || len(end.Values) == 0 {
		t.Fatalf("%s ends with %v", source, end)
	}
	shown, e := w.Show(end.Values[0])
	if e == api.OK {
		shown, e = forms.Plain(shown)
	}
	if e != api.OK {
		t.Fatal(e)
	}
	return text(shown)
}
