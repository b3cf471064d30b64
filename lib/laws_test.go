package lib_test

import (
	"math/rand"
	"strings"
	"testing"

	"commonform/api"
	"commonform/forms"
	"commonform/heap"
	"commonform/lib"
)

// examples are calls of all sorts.
func examples() []string {
	return []string{
		"(cons 1 x)", "(list 1 2 3)", "(list* 1 2 (3))", "(append (1 2) (3) x)", "(reverse (1 2 3))", "(copy-list (1 2))", "(car 5)", "(nthcdr 2 (1 . 2))", "(+ 1/2 0.25)", "(* 1152921504606846975 8)", "(/ 1 0)", "(floor 7/2)", "(- #c(1.5 2))", "(expt 3 50)", "(complex 1 2)", "(max 1 a)", "(symbol-name car)", "(symbol-package :k)", "(concat \"a\" \"b\")", "(subseq \"hello\" 1 3)", "(subseq (1 2 3) 1)", "(string #\\a)", "(vector 1 2)", "(make-array (2 2) 7)", "(array-dimensions #2a((1)))", "(make-hash-table equal)", "(hash-keys $table)", "(typep 1 integer)", "(subtypep integer number)", "(prin1-to-string (1 2))", "(read-from-string \"(a b)\")", "(format nil \"~A\" 1)", "(values 1 2)", "(member 2 (1 2))", "(assoc 1 ((1 . 2)))", "(apply + (1 2))", "(funcall list 1 2)", "(gethash b $table)", "(char \"abc\" 7)", "(aref #(1) 4)", "(find-symbol \"CAR\")",
	}
}

// prepared returns a world with a table.
func prepared(t *testing.T, limit int) *lib.World {
	t.Helper()
	w, e := lib.New(limit, limit)
	if e != api.OK {
		t.Fatal(e)
	}
	set(t, w, "TABLE", call(t, w, "(make-hash-table equal)").Values[0])
	call(t, w, "(%puthash \"a\" $table 1)")
	call(t, w, "(%puthash b $table (2))")
	return w
}

// P20.3: collections change nothing that a world tells.
func TestKeep(t *testing.T) {
	a, b := prepared(t, api.MaxWords), prepared(t, api.MaxWords)
	r := rand.New(rand.NewSource(1))
	closure := making(t, b, heap.KindClosure, heap.Nil, heap.Nil)
	b.SetFunction(symbol(t, b, "COMMON-LISP-USER", "CLO"), closure)
	a.SetFunction(symbol(t, a, "COMMON-LISP-USER", "CLO"), making(t, a, heap.KindClosure, heap.Nil, heap.Nil))
	all := append(examples(), "(set x (1 2))", "(set y \"abc\")", "(symbol-value x)", "(%puthash x $table 3)", "(intern \"ANEW\")", "(gensym)", "(make-symbol \"S\")", "(clo 1)", "(%fset f car)", "(f (1))", "(hash-table-count $table)", "(princ x)", "(rplaca $x 7)", "(%set-plist x (1))", "(symbol-plist x)", "(remhash x $table)", "(read-from-string \"anew\")")
	set(t, a, "X", object(t, a, "(5 6)"))
	set(t, b, "X", object(t, b, "(5 6)"))
	for i := range 600 {
		s := all[r.Intn(len(all))]
		got, want := told(b, call(t, b, s)), told(a, call(t, a, s))
		if got != want {
			t.Fatalf("%s is %s with collections, and %s without", s, got, want)
		}
		if i%3 == 0 {
			keepAll(t, b)
		}
		if i%100 == 0 && state(t, a) != state(t, b) {
			t.Fatalf("behind %s the states differ", s)
		}
	}
	if state(t, a) != state(t, b) || a.Output() != b.Output() {
		t.Error("the states differ")
	}
}

// A root that somebody took away, and an object that nobody kept.
func TestLostObjects(t *testing.T) {
	w := newWorld(t)
	x := symbol(t, w, "COMMON-LISP-USER", "X")
	w.SetValue(x, fix(5))
	roots := w.Heap().Roots()
	w.Heap().Drop(roots[len(roots)-1])
	again := symbol(t, w, "COMMON-LISP-USER", "X")
	if home, name, e := w.Name(again); name != "X" || home != "COMMON-LISP-USER" || e != api.OK {
		t.Errorf("X has become %s of %s, %v", name, home, e)
	}
	w.Heap().Keep(nil, nil)
	if got := told(w, w.Call(lisp(t, w, "CAR"), nil)); got != "! UNDEFINED-FUNCTION car" {
		t.Errorf("without all objects CAR is %s", got)
	}
}

// graph writes what is met from the symbols that a world had.
func graph(t *testing.T, w *lib.World, p lib.Parts) string {
	t.Helper()
	cells, fields, e := w.Heap().Cells(p.Words)
	if e != api.OK {
		t.Fatal(e)
	}
	var b strings.Builder
	for _, c := range cells {
		b.WriteString(c.Bytes + "|")
		for _, f := range c.Fields {
			b.WriteString(fixText(f) + " ")
		}
	}
	for _, f := range fields {
		b.WriteString(fixText(f) + " ")
	}
	return b.String()
}

func fixText(f heap.Field) string {
	x, _ := heap.Fix(int64(f.Object))
	return string(rune('0'+f.Word%64)) + string(rune('0'+x%1000)) + string(rune('0'+(f.Word>>6)%1000))
}

// P20.4: pure functions, and calls that end with a fault, change no object.
func TestPure(t *testing.T) {
	w := prepared(t, api.MaxWords)
	// The symbols of types are there when a fault names them.
	for _, s := range append(examples(), "(symbol-value nope)", "(rplaca nil 1)", "(set t 1)", "(%fset nope nope2)", "(%aset \"abc\" 0 1)", "(remhash 1 2)") {
		call(t, w, s)
	}
	for _, s := range append(examples(), "(symbol-value nope)", "(rplaca nil 1)", "(set t 1)", "(%fset nope nope2)", "(%aset \"abc\" 0 1)", "(%aset $vector 9 1)", "(remhash 1 2)", "(intern \"X\" \"NOPE\")", "(append 5 nil)", "(makunbound :k)") {
		l := arguments(t, w, mustItems(t, s))
		p := w.Parts()
		before := graph(t, w, p)
		w.Call(l[0], l[1:])
		after := w.Parts()
		if graph(t, w, p) != before || p.Table != after.Table || p.Output != after.Output || p.Counter != after.Counter {
			t.Errorf("%s changes something", s)
		}
	}
}

func mustItems(t *testing.T, s string) []api.Form {
	t.Helper()
	l, ok := forms.Items(read(t, s))
	if !ok {
		t.Fatal(s)
	}
	return l
}

// Without room each call has a limit, changes nothing that counts once, and answers behind a collection what it would have answered.
func TestWords(t *testing.T) {
	all := append(examples(), "(intern \"ANEWONE\")", "(intern \"LIST\")", "(gensym)", "(gensym \"ABC\")", "(make-symbol \"S\")", "(%puthash 7 $table 8)", "(read-from-string \"(anew :bnew)\")", "(make-array 5)", "(make-array (2 2))", "(prin1 5)", "(set v (1))", "(symbol-value nope)", "(intern \"X\" \"NOPE\")", "(hash-keys $table)", "(find-symbol \"INTEGER\")")
	least := prepared(t, api.MaxWords).Heap().Used()
	limits := 0
	for _, s := range all {
		full := prepared(t, api.MaxWords)
		want := told(full, call(t, full, s))
		for room := range 60 {
			w := prepared(t, least+200)
			l := arguments(t, w, mustItems(t, s))
			for w.Heap().Used() < w.Heap().Limit()-room {
				raw(t, w, heap.KindString, "")
			}
			table, counter, output := w.Symbols().Text(), w.Parts().Counter, w.Output()
			a := w.Call(l[0], l[1:])
			if a.Kind != lib.AnswerLimit {
				if got := told(w, a); got != want {
					t.Fatalf("%s with %d words is %s; want %s", s, room, got, want)
				}
				break
			}
			limits++
			if a.Code != api.ErrWords || w.Symbols().Text() != table || w.Parts().Counter != counter || w.Output() != output {
				t.Fatalf("%s with %d words: %v", s, room, a)
			}
			// A collection that lets all strings go that nobody holds; the arguments are held.
			var roots []int
			for _, x := range l {
				roots = append(roots, w.Heap().Root(x))
			}
			keepAll(t, w)
			for i, root := range roots {
				l[i], _ = w.Heap().At(root)
			}
			if got := told(w, w.Call(l[0], l[1:])); got != want {
				t.Fatalf("%s behind a collection is %s; want %s", s, got, want)
			}
			if w.Parts().Counter != full.Parts().Counter {
				t.Fatalf("behind %s the counter is %d", s, w.Parts().Counter)
			}
		}
	}
	if limits < 100 {
		t.Errorf("only %d limits", limits)
	}
}

// P20.5: laws of lists.
func TestListLaws(t *testing.T) {
	w := newWorld(t)
	r := rand.New(rand.NewSource(3))
	apply := func(name string, args ...heap.Word) heap.Word {
		a := w.Call(lisp(t, w, name), args)
		if a.Kind != lib.AnswerValues {
			t.Fatalf("%s is %s", name, told(w, a))
		}
		return a.Values[0]
	}
	isT := func(x heap.Word) bool { return x == lisp(t, w, "T") }
	for range 60 {
		var lists []heap.Word
		sum := int64(0)
		for range 3 {
			var l []heap.Word
			for range r.Intn(5) {
				l = append(l, fix(int64(r.Intn(9))))
			}
			list := apply("LIST", l...)
			lists = append(lists, list)
			n, _ := apply("LENGTH", list).Fixnum()
			sum += n
			for i, x := range l {
				if apply("NTH", fix(int64(i)), list) != x {
					t.Fatalf("NTH %d of %s", i, shown(w, list))
				}
			}
			for _, same := range []heap.Word{apply("REVERSE", apply("REVERSE", list)), apply("COPY-LIST", list), apply("SUBSEQ", list, fix(0))} {
				if !isT(apply("EQUAL", list, same)) {
					t.Fatalf("%s is not equal to %s", shown(w, same), shown(w, list))
				}
			}
			c := apply("CONS", list, fix(7))
			if apply("CAR", c) != list || apply("CDR", c) != fix(7) {
				t.Fatal("CAR and CDR of CONS")
			}
		}
		if n, _ := apply("LENGTH", apply("APPEND", lists...)).Fixnum(); n != sum {
			t.Fatalf("LENGTH of APPEND is %d; want %d", n, sum)
		}
	}
}
