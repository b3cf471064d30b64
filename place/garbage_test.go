package place_test

import (
	"math/rand"
	"reflect"
	"testing"

	"commonform/api"
	"commonform/place"
)

// garbage makes a tree that is seldom a form, of names that mean something here.
func garbage(r *rand.Rand, depth int) api.Form {
	names := []string{"SETF", "PSETF", "INCF", "DECF", "PUSH", "PUSHNEW", "POP", "ROTATEF", "SHIFTF", "DEFSETF", "NTH", "SECOND", "CADR", "THE", "VALUES", "CAR", "F", "X", "QUOTE", "NIL", "T"}
	f := api.Form{Kind: api.FormCons}
	if depth == 0 || r.Intn(3) == 0 {
		f = api.Form{Kind: api.FormSymbol, Home: "COMMON-LISP", Text: names[r.Intn(len(names))]}
	}
	switch r.Intn(40) {
	case 0:
		f.Kind = r.Intn(20) - 2
	case 1:
		f.Home = []string{"", "%", "KEYWORD", "P"}[r.Intn(4)]
	case 2:
		f.Text = []string{"", "0", "-", "\xff", "1 2"}[r.Intn(5)]
	case 3:
		f.Kids = []api.Form{garbage(r, 0)}
	}
	if f.Kind == api.FormCons {
		for range 1 + r.Intn(4) {
			f.Kids = append(f.Kids, garbage(r, max(0, depth-1)))
		}
		if r.Intn(10) > 0 {
			f.Kids = append(f.Kids, api.Form{Kind: api.FormSymbol, Home: "COMMON-LISP", Text: "NIL"})
		}
	}
	return f
}

func isZero(l ...any) bool {
	for _, x := range l {
		if !reflect.ValueOf(x).IsZero() {
			return false
		}
	}
	return true
}

// Whatever is handed in, nothing panics, and with an error all other results are zero values.
func TestGarbage(t *testing.T) {
	for seed := range int64(20000) {
		r := rand.New(rand.NewSource(seed))
		f := garbage(r, 5)
		fresh := r.Intn(5) - 1
		l := []place.Writer{{Reader: garbage(r, 1), Writer: garbage(r, 1)}, {Reader: garbage(r, 0), Writer: garbage(r, 0)}}
		place.Constant(f)
		if made, e := place.Define(l, f); e != api.OK && made != nil {
			t.Fatalf("Define(%v): %v", f, e)
		}
		if p, next, e := place.Expand(l, f, fresh); e != api.OK && !isZero(p, next) {
			t.Fatalf("Expand(%v): %v", f, e)
		}
		if g, next, e := place.Macro(l, f, fresh); e != api.OK && !isZero(g, next) {
			t.Fatalf("Macro(%v): %v", f, e)
		}
	}
}
