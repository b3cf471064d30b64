package format_test

import (
	"slices"
	"strconv"
	"strings"
	"testing"

	"commonform/api"
	"commonform/format"
	"commonform/reader"
)

// read returns the forms of a text, with COMMON-LISP as the package.
func read(t *testing.T, s string) []api.Form {
	t.Helper()
	if strings.TrimSpace(s) == "" {
		return nil
	}
	r, at, e := reader.One(reader.Standard("COMMON-LISP"), "#("+s+")")
	if e != api.OK {
		t.Fatalf("One(%q): %d, %v", s, at, e)
	}
	return r.Form.Kids
}

func one(t *testing.T, s string) api.Form {
	t.Helper()
	return read(t, s)[0]
}

func node(kind int, text string, kids ...api.Form) api.Form {
	return api.Form{Kind: kind, Text: text, Kids: kids}
}

func num(n int) api.Form {
	return node(api.FormInt, strconv.Itoa(n))
}

func long(digits int) api.Form {
	return node(api.FormInt, strings.Repeat("7", digits))
}

func str(s string) api.Form {
	return node(api.FormString, s)
}

func null() api.Form {
	return api.Form{Kind: api.FormSymbol, Text: "NIL", Home: "COMMON-LISP"}
}

func list(l ...api.Form) api.Form {
	if len(l) == 0 {
		return null()
	}
	return node(api.FormCons, "", append(slices.Clone(l), null())...)
}

func many(n int, x api.Form) []api.Form {
	return slices.Repeat([]api.Form{x}, n)
}

// A row has a control string, arguments as they are read, and the output, or an error.
type row struct {
	control, args, want string
	e                   api.Errno
}

func check(t *testing.T, rows ...row) {
	t.Helper()
	for _, c := range rows {
		made(t, c.control, read(t, c.args), c.want, c.e)
	}
}

func made(t *testing.T, control string, args []api.Form, want string, wanted api.Errno) {
	t.Helper()
	got, e := format.Format(control, args)
	if got != want || e != wanted {
		t.Errorf("%.200q: %.200q, %v; expected %.200q, %v", control, got, e, want, wanted)
	}
}
