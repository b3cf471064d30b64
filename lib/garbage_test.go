package lib_test

import (
	"math/rand"
	"strings"
	"testing"

	"commonform/api"
	"commonform/heap"
	"commonform/lib"
)

// garbage makes words of all sorts, also objects that only look like some.
func garbage(t *testing.T, w *lib.World) []heap.Word {
	t.Helper()
	var all []heap.Word
	for _, s := range []string{"nil", "t", "x", ":k", "#:g", "car", "funcall", "apply", "equal", "0", "1", "-1", "3", "70000", "1180591620717411303424", "-1180591620717411303424", "1/2", "1.5", "-0.0", "1d300", "1e38", "#c(1 2)", "#c(1.0 0.0)", "#\\a", "\"\"", "\"ab\"", "\"COMMON-LISP\"", "\"(1 2)\"", "\"~A~D\"", "#*01", "#()", "#(1 2)", "#2a((1 2) (3 4))", "#0a5", "(1)", "(1 2 3)", "(1 . 2)", "((1 . 2) nil 5)", "(integer 1 5)", "integer", "#1=(1 . #1#)", "#1=(#1#)", "#1=#(#1#)", "(2 2)", "(apply (1))"} {
		all = append(all, object(t, w, s))
	}
	for kind := 1; kind <= heap.KindLast; kind++ {
		all = append(all, making(t, w, kind), making(t, w, kind, fix(1)), making(t, w, kind, all[0], all[5]), raw(t, w, kind, ""), raw(t, w, kind, "12"), raw(t, w, kind, "\xff\x00"))
		loop := making(t, w, kind, fix(0), fix(0))
		w.Heap().Set(loop, 0, loop)
		w.Heap().Set(loop, 1, loop)
		all = append(all, loop)
	}
	for _, s := range []string{"(make-hash-table eq)", "(make-hash-table equalp)"} {
		all = append(all, call(t, w, s).Values[0])
	}
	f, _ := w.Function(lisp(t, w, "APPLY"))
	return append(all, f, heap.Unbound, raw(t, w, heap.KindString, strings.Repeat("x", 3000)))
}

// P1: whatever the arguments are, each function answers with values, a fault, a function, or a limit of its own.
func TestGarbage(t *testing.T) {
	r := rand.New(rand.NewSource(9))
	names := lib.Names()
	for range 6 {
		w := newWorld(t)
		pool := garbage(t, w)
		for i := range 6000 {
			name := names[r.Intn(len(names))]
			least, most, _ := lib.Arity(name)
			n := least + r.Intn(3)
			if most >= 0 && r.Intn(9) > 0 {
				n = least + r.Intn(most-least+1)
			}
			var args []heap.Word
			for range n {
				args = append(args, pool[r.Intn(len(pool))])
			}
			a := w.Call(lisp(t, w, name), args)
			if a.Kind == lib.AnswerLimit && a.Code != api.ErrWords && a.Code != api.ErrLarge && a.Code != api.ErrDepth {
				t.Fatalf("%s of %v: the limit %v", name, args, a.Code)
			}
			if a.Kind == lib.AnswerFault && (a.Fault.Type == "" || len(a.Values) > 0) {
				t.Fatalf("%s of %v: %v", name, args, a)
			}
			for _, x := range append(a.Values, a.Fault.Data...) {
				if _, e := w.Show(x); e == heap.ErrWord {
					t.Fatalf("%s of %v answers a bad word", name, args)
				}
				if i%7 == 0 {
					pool[r.Intn(len(pool))] = x
				}
			}
			if w.Heap().Used() > 50000 {
				break
			}
		}
	}
}
