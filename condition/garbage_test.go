package condition_test

import (
	"math/rand"
	"reflect"
	"testing"

	"commonform/api"
	"commonform/condition"
)

// garbage makes a tree that is seldom a form, of names that mean something here.
func garbage(r *rand.Rand, depth int) api.Form {
	names := []string{"HANDLER-BIND", "RESTART-BIND", "HANDLER-CASE", "RESTART-CASE", "IGNORE-ERRORS", "WITH-SIMPLE-RESTART", "DEFINE-CONDITION", "ASSERT", "CHECK-TYPE", "X", "NIL"}
	f := api.Form{Kind: api.FormCons}
	if depth == 0 || r.Intn(3) == 0 {
		f = api.Form{Kind: api.FormSymbol, Home: "COMMON-LISP", Text: names[r.Intn(len(names))]}
	}
	switch r.Intn(40) {
	case 0:
		f.Kind = r.Intn(20) - 2
	case 1:
		f.Home = []string{"", "%", "KEYWORD", "P"}[r.Intn(4)]
	case 2:
		f.Text = []string{"", "0", "-", "\xff", "1 2"}[r.Intn(5)]
	case 3:
		f.Kids = []api.Form{garbage(r, 0)}
	}
	if f.Kind == api.FormCons {
		for range 1 + r.Intn(4) {
			f.Kids = append(f.Kids, garbage(r, max(0, depth-1)))
		}
		if r.Intn(10) > 0 {
			f.Kids = append(f.Kids, api.Form{Kind: api.FormSymbol, Home: "COMMON-LISP", Text: "NIL"})
		}
	}
	return f
}

func isZero(l ...any) bool {
	for _, x := range l {
		if !reflect.ValueOf(x).IsZero() {
			return false
		}
	}
	return true
}

// Whatever is handed in, nothing panics, and with an error all other results are zero values.
func TestGarbage(t *testing.T) {
	for seed := range int64(20000) {
		r := rand.New(rand.NewSource(seed))
		f := garbage(r, 5)
		fresh := r.Intn(5) - 1
		if x, l, e := condition.Clauses(f); e != api.OK && (l != nil || !isZero(x)) {
			t.Fatalf("Clauses(%v): %v", f, e)
		}
		if g, next, e := condition.Macro(f, fresh); e != api.OK && !isZero(g, next) {
			t.Fatalf("Macro(%v): %v", f, e)
		}
	}
}
