package condition_test

import (
	"strconv"
	"strings"
	"testing"

	"commonform/api"
	"commonform/forms"
	"commonform/printer"
	"commonform/reader"
)

// read returns the form of a text, with COMMON-LISP as the package; G0 is the fresh symbol 0, and so on.
func read(t *testing.T, s string) api.Form {
	t.Helper()
	r, at, e := reader.One(reader.Standard("COMMON-LISP"), s)
	if e != api.OK {
		t.Fatalf("One(%q): %d, %v", s, at, e)
	}
	return changed(r.Form, func(f api.Form) api.Form {
		if n, ok := strings.CutPrefix(f.Text, "G"); ok && f.Kind == api.FormSymbol {
			if _, err := strconv.Atoi(n); err == nil {
				return forms.Symbol("%", n)
			}
		}
		return f
	})
}

// changed returns a form with other nodes.
func changed(f api.Form, change func(api.Form) api.Form) api.Form {
	f = change(f)
	var kids []api.Form
	for _, k := range f.Kids {
		kids = append(kids, changed(k, change))
	}
	f.Kids = kids
	return f
}

func walk(f api.Form, do func(api.Form)) {
	do(f)
	for _, k := range f.Kids {
		walk(k, do)
	}
}

// moved returns a form whose fresh symbols have greater numbers.
func moved(f api.Form, by int) api.Form {
	return changed(f, func(f api.Form) api.Form {
		if n, err := strconv.Atoi(f.Text); err == nil && f.Home == "%" {
			f.Text = strconv.Itoa(n + by)
		}
		return f
	})
}

// spoil changes all nodes of a form.
func spoil(f api.Form) {
	for i := range f.Kids {
		spoil(f.Kids[i])
		f.Kids[i] = api.Form{Kind: api.FormInt, Text: "99"}
	}
}

func text(f api.Form) string {
	s, e := printer.Text(f, true)
	if e != api.OK {
		return "?" + e.Error()
	}
	return s
}

func texts(l []api.Form) string {
	var all []string
	for _, f := range l {
		all = append(all, text(f))
	}
	return strings.Join(all, " ")
}
