package macro_test

import (
	"math/rand"
	"reflect"
	"testing"

	"commonform/api"
	"commonform/core"
	"commonform/forms"
	"commonform/lib"
	"commonform/macro"
)

// garbage makes a tree that is seldom a form, of names that mean something here.
func garbage(r *rand.Rand, depth int) api.Form {
	names := []string{"QUOTE", "FUNCTION", "LAMBDA", "IF", "PROGN", "LET", "LET*", "SETQ", "BLOCK", "TAGBODY", "GO", "FLET", "LABELS", "LOCALLY", "MACROLET", "SYMBOL-MACROLET", "EVAL-WHEN", "DECLARE", "AND", "OR", "COND", "CASE", "DO", "DOLIST", "PROG", "MULTIPLE-VALUE-BIND", "DESTRUCTURING-BIND", "DEFUN", "DEFMACRO", "DEFVAR", "DECLAIM", "DEFCLASS", "DEFMETHOD", "DEFGENERIC", "WITH-SLOTS", "SETF", "LOOP", "M", "X", "X", "NIL", "&OPTIONAL"}
	f := api.Form{Kind: api.FormCons}
	if depth == 0 || r.Intn(3) == 0 {
		f = api.Form{Kind: api.FormSymbol, Home: "COMMON-LISP", Text: names[r.Intn(len(names))]}
	}
	switch r.Intn(40) {
	case 0:
		f.Kind = r.Intn(20) - 2
	case 1:
		f.Home = []string{"", "%", "KEYWORD", "P"}[r.Intn(4)]
	case 2:
		f.Text = []string{"", "0", "-", "\xff", "1 2"}[r.Intn(5)]
	case 3:
		f.Kids = []api.Form{garbage(r, 0)}
	}
	if f.Kind == api.FormCons {
		for range 1 + r.Intn(4) {
			f.Kids = append(f.Kids, garbage(r, max(0, depth-1)))
		}
		if r.Intn(10) > 0 {
			f.Kids = append(f.Kids, api.Form{Kind: api.FormSymbol, Home: "COMMON-LISP", Text: "NIL"})
		}
	}
	return f
}

func isZero(l ...any) bool {
	for _, x := range l {
		if !reflect.ValueOf(x).IsZero() {
			return false
		}
	}
	return true
}

// Whatever is handed in, nothing panics, and with an error all other results are zero values.
func TestGarbage(t *testing.T) {
	w := newWorld(t)
	expanded := 0
	for seed := range int64(20000) {
		r := rand.New(rand.NewSource(seed))
		f := garbage(r, 5)
		fresh := r.Intn(5) - 1
		table := given()
		table.Macros = []macro.Macro{{Name: garbage(r, 0), Lambda: api.Core{Op: r.Intn(30) - 1, Pars: []api.Param{{Kind: r.Intn(5)}}, Kids: []api.Core{{Op: r.Intn(5), Data: garbage(r, 1)}}}}}
		table.Specials = []api.Form{garbage(r, 0)}
		if g, next, is, e := macro.Once(table, f, fresh); e != api.OK && !isZero(g, next, is) {
			t.Fatalf("Once(%v): %v", f, e)
		}
		if made, next, is, end := macro.Define(w, table, f, fresh); (end.Kind != lib.EndValues || !is) && !isZero(made, next, is) {
			t.Fatalf("Define(%v): %v", f, end)
		}
		g, next, end := macro.All(w, table, f, fresh)
		if end.Kind != lib.EndValues {
			if end.Kind == lib.EndLimit {
				w = newWorld(t)
			}
			if !isZero(g, next) {
				t.Fatalf("All(%v): %v", f, end)
			}
			continue
		}
		expanded++
		again, _, end := macro.All(w, table, g, next)
		if end.Kind != lib.EndValues || !forms.Equal(again, g) {
			t.Fatalf("All(%s) = %s, and then %s, %v", text(f), text(g), text(again), end)
		}
		core.Convert(g, table.Specials)
	}
	if expanded < 1000 {
		t.Errorf("only %d forms were expanded", expanded)
	}
}
