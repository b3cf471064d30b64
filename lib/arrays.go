package lib

import (
	"slices"

	"commonform/heap"
	"commonform/table"

	"commonform/api"
)

const (
	mostElements = 16384
	mostRank     = 7
)

func (w *World) onArrays() map[string]body {
	return map[string]body{
		"VECTOR":     one(func(a []heap.Word) heap.Word { return w.make(heap.KindVector, a...) }),
		"MAKE-ARRAY": one(func(a []heap.Word) heap.Word { return w.newArray(a[0], append(a, heap.Nil)[1]) }),
		"AREF": one(func(a []heap.Word) heap.Word {
			at := w.place("AREF", a[0], a[1:])
			return w.element(a[0], at)
		}),
		"%ASET": one(func(a []heap.Word) heap.Word {
			x, value := a[0], a[len(a)-1]
			if w.isString(x) || w.isBits(x) {
				w.failType(x, "ARRAY")
			}
			at := w.place("%ASET", x, a[1:len(a)-1])
			if _, elements, ok := w.arrayOf(x); ok {
				x = elements
			}
			w.heap.Set(x, at, value)
			return value
		}),
		"ARRAY-DIMENSIONS": one(func(a []heap.Word) heap.Word {
			var l []heap.Word
			for _, n := range w.dimensions(a[0]) {
				l = append(l, fixnum(n))
			}
			return w.list(l, heap.Nil)
		}),
		"ARRAY-RANK": one(func(a []heap.Word) heap.Word { return fixnum(len(w.dimensions(a[0]))) }),
	}
}

// dimensions returns those of an array.
func (w *World) dimensions(x heap.Word) []int {
	if dims, _, ok := w.arrayOf(x); ok {
		return dims
	}
	return []int{w.length(x)}
}

// place returns the index of an element in row-major order.
func (w *World) place(name string, x heap.Word, indices []heap.Word) int {
	dims := w.dimensions(x)
	if len(indices) != len(dims) {
		w.fail("PROGRAM-ERROR", w.lisp(name))
	}
	at := 0
	for i, k := range indices {
		if count(k) >= dims[i] {
			w.failType(k, "INTEGER")
		}
		at = at*dims[i] + count(k)
	}
	return at
}

// element returns an element of an array.
func (w *World) element(x heap.Word, at int) heap.Word {
	switch w.heap.Kind(x) {
	case heap.KindString:
		return character([]rune(w.text(x))[at])
	case heap.KindBits:
		if w.text(x)[at] == '1' {
			return fixnum(1)
		}
		return fixnum(0)
	case heap.KindArray:
		_, elements, _ := w.arrayOf(x)
		return w.get(elements, at)
	}
	return w.get(x, at)
}

// newArray makes a vector, or an array with some dimensions.
func (w *World) newArray(size, initial heap.Word) heap.Word {
	dims := []heap.Word{size}
	isVector := w.isNumber('k', size)
	if !isVector {
		isSize := func(x heap.Word) bool { return w.isNumber('k', x) }
		if !w.isProper(size) || !w.all(size, isSize) {
			w.failType(size, "LIST")
		}
		dims = w.elements(size)
		isVector = len(dims) == 1
	}
	n := 1
	for _, d := range dims {
		// A dimension that is no fixnum has no room, whatever the others are.
		if _, ok := d.Fixnum(); !ok {
			panic(limit(api.ErrWords))
		}
		n = min(n*min(count(d), mostElements+1), mostElements+1)
	}
	if n > mostElements || len(dims) > mostRank {
		panic(limit(api.ErrWords))
	}
	elements := w.make(heap.KindVector, slices.Repeat([]heap.Word{initial}, n)...)
	if isVector {
		return elements
	}
	return w.make(heap.KindArray, w.make(heap.KindVector, dims...), elements)
}

// all reports whether something holds for all elements of a proper list.
func (w *World) all(l heap.Word, holds func(x heap.Word) bool) bool {
	for _, x := range w.elements(l) {
		if !holds(x) {
			return false
		}
	}
	return true
}

func (w *World) onTables() map[string]body {
	return map[string]body{
		"MAKE-HASH-TABLE": one(func(a []heap.Word) heap.Word {
			_, name := w.nameOf(a[0])
			test := slices.Index([]string{"EQ", "EQL", "EQUAL", "EQUALP"}, name)
			if test < 0 {
				w.failType(a[0], "FUNCTION")
			}
			h, e := table.New(w.heap, test, false)
			must(e)
			return h
		}),
		"GETHASH": func(a []heap.Word) []heap.Word {
			x, found, e := table.Get(w.heap, a[1], a[0])
			must(e)
			if !found {
				x = append(a, heap.Nil)[2]
			}
			return values(x, w.truth(found))
		},
		"%PUTHASH": one(func(a []heap.Word) heap.Word {
			must(table.Put(w.heap, a[1], a[0], a[2]))
			return a[2]
		}),
		"REMHASH": one(func(a []heap.Word) heap.Word {
			found, e := table.Remove(w.heap, a[1], a[0])
			must(e)
			return w.truth(found)
		}),
		"CLRHASH": one(func(a []heap.Word) heap.Word {
			must(table.Clear(w.heap, a[0]))
			return a[0]
		}),
		"HASH-TABLE-COUNT": one(func(a []heap.Word) heap.Word {
			n, e := table.Count(w.heap, a[0])
			must(e)
			return fixnum(n)
		}),
		"HASH-KEYS": one(func(a []heap.Word) heap.Word {
			l, e := table.Keys(w.heap, a[0])
			must(e)
			return w.list(l, heap.Nil)
		}),
	}
}
