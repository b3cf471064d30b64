package loop_test

import (
	"math/rand"
	"reflect"
	"testing"

	"commonform/api"
	"commonform/loop"
)

// garbage makes a tree that is seldom a form, of names that mean something here.
func garbage(r *rand.Rand, depth int) api.Form {
	names := []string{"LOOP", "LOOP", "NAMED", "WITH", "FOR", "AS", "=", "THEN", "IN", "ON", "BY", "ACROSS", "FROM", "TO", "BELOW", "DOWNTO", "REPEAT", "WHILE", "DO", "COLLECT", "INTO", "SUM", "MAXIMIZE", "IF", "UNLESS", "AND", "ELSE", "END", "RETURN", "FINALLY", "ALWAYS", "X", "NIL"}
	f := api.Form{Kind: api.FormCons}
	if depth == 0 || r.Intn(3) == 0 {
		f = api.Form{Kind: api.FormSymbol, Home: "COMMON-LISP", Text: names[r.Intn(len(names))]}
	}
	switch r.Intn(40) {
	case 0:
		f.Kind = r.Intn(20) - 2
	case 1:
		f.Home = []string{"", "%", "KEYWORD", "P"}[r.Intn(4)]
	case 2:
		f.Text = []string{"", "0", "-", "\xff", "1 2"}[r.Intn(5)]
	case 3:
		f.Kids = []api.Form{garbage(r, 0)}
	}
	if f.Kind == api.FormCons {
		for range 1 + r.Intn(4) {
			f.Kids = append(f.Kids, garbage(r, max(0, depth-1)))
		}
		if r.Intn(10) > 0 {
			f.Kids = append(f.Kids, api.Form{Kind: api.FormSymbol, Home: "COMMON-LISP", Text: "NIL"})
		}
	}
	return f
}

func isZero(l ...any) bool {
	for _, x := range l {
		if !reflect.ValueOf(x).IsZero() {
			return false
		}
	}
	return true
}

// Whatever is handed in, nothing panics, and with an error all other results are zero values.
func TestGarbage(t *testing.T) {
	for seed := range int64(20000) {
		r := rand.New(rand.NewSource(seed))
		f := garbage(r, 5)
		fresh := r.Intn(5) - 1
		f.Kids = append([]api.Form{{Kind: api.FormSymbol, Home: "COMMON-LISP", Text: "LOOP"}}, f.Kids...)
		if is, e := loop.Simple(f); e != api.OK && is {
			t.Fatalf("Simple(%v): %v", f, e)
		}
		if l, e := loop.Parse(f); e != api.OK && l != nil {
			t.Fatalf("Parse(%v): %v", f, e)
		}
		if g, next, e := loop.Macro(f, fresh); e != api.OK && !isZero(g, next) {
			t.Fatalf("Macro(%v): %v", f, e)
		}
		var clause func(depth int) loop.Clause
		clause = func(depth int) loop.Clause {
			c := loop.Clause{Kind: r.Intn(28) - 1}
			if r.Intn(2) == 0 {
				c.Var = garbage(r, 0)
			}
			for range r.Intn(3) {
				c.Forms = append(c.Forms, garbage(r, 1))
			}
			for range r.Intn(1 + 2*depth) {
				c.Then = append(c.Then, clause(depth-1))
				c.Else = append(c.Else, clause(depth-1))
			}
			return c
		}
		l := []loop.Clause{clause(2)}
		if g, next, e := loop.Expand(l, fresh); e != api.OK && !isZero(g, next) || e == api.OK && loop.Check(l) != api.OK {
			t.Fatalf("Expand(%v): %v", l, e)
		}
	}
}
