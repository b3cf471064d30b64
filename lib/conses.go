package lib

import (
	"math"
	"slices"

	"commonform/api"
	"commonform/heap"
	"commonform/table"
)

// farthest is how many times NTHCDR takes a cdr at most.
const farthest = 10000

// predicate makes the body of a function that tells whether something holds for its arguments.
func (w *World) predicate(holds func(a []heap.Word) bool) body {
	return one(func(a []heap.Word) heap.Word { return w.truth(holds(a)) })
}

func (w *World) onConses() map[string]body {
	return map[string]body{
		"CONS":   one(func(a []heap.Word) heap.Word { return w.make(heap.KindCons, a...) }),
		"CAR":    one(func(a []heap.Word) heap.Word { return w.part(a[0], 0) }),
		"CDR":    one(func(a []heap.Word) heap.Word { return w.part(a[0], 1) }),
		"RPLACA": one(func(a []heap.Word) heap.Word { return w.replace(a[0], 0, a[1]) }),
		"RPLACD": one(func(a []heap.Word) heap.Word { return w.replace(a[0], 1, a[1]) }),
		"LIST":   one(func(a []heap.Word) heap.Word { return w.list(a, heap.Nil) }),
		"LIST*": one(func(a []heap.Word) heap.Word {
			last := len(a) - 1
			return w.list(a[:last], a[last])
		}),
		"CONSP": w.predicate(func(a []heap.Word) bool { return w.isCons(a[0]) }),
		"ATOM":  w.predicate(func(a []heap.Word) bool { return !w.isCons(a[0]) }),
		"LISTP": w.predicate(func(a []heap.Word) bool { return w.isList(a[0]) }),
		"NULL":  w.predicate(func(a []heap.Word) bool { return a[0] == heap.Nil }),
		"NOT":   w.predicate(func(a []heap.Word) bool { return a[0] == heap.Nil }),
	}
}

func (w *World) onLists() map[string]body {
	return map[string]body{
		"APPEND": one(w.appended),
		"REVERSE": one(func(a []heap.Word) heap.Word {
			l := w.elements(a[0])
			slices.Reverse(l)
			return w.list(l, heap.Nil)
		}),
		"NTH":       one(func(a []heap.Word) heap.Word { return w.part(w.behind(a[0], a[1]), 0) }),
		"NTHCDR":    one(func(a []heap.Word) heap.Word { return w.behind(a[0], a[1]) }),
		"LAST":      one(func(a []heap.Word) heap.Word { return w.last(a[0]) }),
		"LENGTH":    one(func(a []heap.Word) heap.Word { return fixnum(w.length(a[0])) }),
		"MEMBER":    one(func(a []heap.Word) heap.Word { return w.member(a[0], a[1]) }),
		"ASSOC":     one(func(a []heap.Word) heap.Word { return w.assoc(a[0], a[1]) }),
		"COPY-LIST": one(func(a []heap.Word) heap.Word { return w.list(w.elements(a[0]), heap.Nil) }),
	}
}

// part returns the car or the cdr of a list; those of NIL are NIL.
func (w *World) part(x heap.Word, field int) heap.Word {
	if x == heap.Nil {
		return x
	}
	if !w.isCons(x) {
		w.failType(x, "LIST")
	}
	return w.get(x, field)
}

// replace changes a field of a cons, and returns the cons.
func (w *World) replace(cons heap.Word, field int, x heap.Word) heap.Word {
	w.heap.Set(cons, field, x)
	return cons
}

// appended returns the elements of all lists but the last one, which must be proper, and the last one behind them.
func (w *World) appended(a []heap.Word) heap.Word {
	if len(a) == 0 {
		return heap.Nil
	}
	lists, tail := a[:len(a)-1], a[len(a)-1]
	for _, x := range lists {
		if !w.isProper(x) {
			w.failType(x, "LIST")
		}
	}
	for _, x := range slices.Backward(lists) {
		tail = w.list(w.elements(x), tail)
	}
	return tail
}

// count returns the value of an integer from 0 on; that of a great one is greater than all that is counted.
func count(x heap.Word) int {
	n, ok := x.Fixnum()
	if !ok {
		return math.MaxInt
	}
	return int(n)
}

// behind returns what is left of a list after so many cdrs.
func (w *World) behind(k, x heap.Word) heap.Word {
	for range min(count(k), farthest) {
		x = w.part(x, 1)
	}
	return x
}

func (w *World) last(l heap.Word) heap.Word {
	last := heap.Nil
	var s spine
	for c := range w.conses(l, &s) {
		last = c
	}
	if s.circular {
		w.failType(l, "LIST")
	}
	return last
}

// length returns how many elements a sequence has.
func (w *World) length(x heap.Word) int {
	switch w.heap.Kind(x) {
	case heap.KindString:
		return length(w.text(x))
	case heap.KindBits, heap.KindVector:
		return w.heap.Len(x)
	}
	return len(w.elements(x))
}

func (w *World) eql(x, y heap.Word) bool {
	is, _ := table.Eql(w.heap, x, y)
	return is
}

func (w *World) member(x, l heap.Word) heap.Word {
	for c := range w.conses(l, &spine{}) {
		if w.eql(x, w.get(c, 0)) {
			return c
		}
	}
	return heap.Nil
}

func (w *World) assoc(x, l heap.Word) heap.Word {
	for _, pair := range w.elements(l) {
		if pair == heap.Nil {
			continue
		}
		if !w.isCons(pair) {
			w.failType(pair, "LIST")
		}
		if w.eql(x, w.get(pair, 0)) {
			return pair
		}
	}
	return heap.Nil
}

// relation makes the body of a function that compares two words.
func (w *World) relation(same func(*heap.Heap, heap.Word, heap.Word) (bool, api.Errno)) body {
	return w.predicate(func(a []heap.Word) bool {
		is, _ := same(w.heap, a[0], a[1])
		return is
	})
}

func (w *World) onSameness() map[string]body {
	return map[string]body{
		"EQ":     w.predicate(func(a []heap.Word) bool { return a[0] == a[1] }),
		"EQL":    w.relation(table.Eql),
		"EQUAL":  w.relation(table.Equal),
		"EQUALP": w.relation(table.Equalp),
	}
}

// ofNumber makes the body of a function that tells whether its argument is a number of some kinds.
func (w *World) ofNumber(isOne func(kind int) bool) body {
	return w.predicate(func(a []heap.Word) bool {
		f, ok := w.number(a[0])
		return ok && isOne(f.Kind)
	})
}

func (w *World) onKinds() map[string]body {
	is := func(holds func(x heap.Word) bool) body {
		return w.predicate(func(a []heap.Word) bool { return holds(a[0]) })
	}
	return map[string]body{
		"SYMBOLP": is(w.isSymbol),
		"KEYWORDP": is(func(x heap.Word) bool {
			home, _, e := w.Name(x)
			return e == api.OK && home == keywords
		}),
		"NUMBERP":   w.ofNumber(func(int) bool { return true }),
		"INTEGERP":  w.ofNumber(func(kind int) bool { return kind == api.FormInt }),
		"RATIONALP": w.ofNumber(func(kind int) bool { return kind == api.FormInt || kind == api.FormRatio }),
		"REALP":     w.ofNumber(func(kind int) bool { return kind != api.FormComplex }),
		"FLOATP":    w.ofNumber(isFloat),
		"COMPLEXP":  w.ofNumber(func(kind int) bool { return kind == api.FormComplex }),
		"CHARACTERP": is(func(x heap.Word) bool {
			_, ok := x.Character()
			return ok
		}),
		"STRINGP":      is(w.isString),
		"BIT-VECTOR-P": is(w.isBits),
		"VECTORP":      is(func(x heap.Word) bool { return w.isString(x) || w.isBits(x) || w.isVector(x) }),
		"ARRAYP":       is(w.isArray),
		"FUNCTIONP":    is(w.isFunction),
		"HASH-TABLE-P": is(w.isTable),
	}
}
