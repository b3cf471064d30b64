package lib

import (
	"iter"
	"unicode/utf8"

	"commonform/api"
	"commonform/forms"
	"commonform/heap"
)

// get returns a field that is there.
func (w *World) get(x heap.Word, i int) heap.Word {
	y, _ := w.heap.Get(x, i)
	return y
}

// fields returns all fields of an object that has some.
func (w *World) fields(x heap.Word) []heap.Word {
	l := make([]heap.Word, w.heap.Len(x))
	for i := range l {
		l[i] = w.get(x, i)
	}
	return l
}

// hasBytes reports whether an object has bytes, not fields.
func (w *World) hasBytes(x heap.Word) bool {
	_, e := w.heap.Get(x, 0)
	return e == heap.ErrRaw
}

// hasFields reports whether a word is an object of a kind with so many fields.
func (w *World) hasFields(x heap.Word, kind, n int) bool {
	return w.heap.Kind(x) == kind && w.heap.Len(x) == n && !w.hasBytes(x)
}

// isRaw reports whether a word is an object of a kind with bytes.
func (w *World) isRaw(x heap.Word, kind int) bool {
	return w.heap.Kind(x) == kind && w.hasBytes(x)
}

// text returns the bytes of an object that has some.
func (w *World) text(x heap.Word) string {
	s, _ := w.heap.Bytes(x)
	return s
}

func (w *World) isCons(x heap.Word) bool { return w.hasFields(x, heap.KindCons, 2) }

func (w *World) isList(x heap.Word) bool { return x == heap.Nil || w.isCons(x) }

func (w *World) isString(x heap.Word) bool { return w.isRaw(x, heap.KindString) }

func (w *World) isBits(x heap.Word) bool { return w.isRaw(x, heap.KindBits) }

func (w *World) isVector(x heap.Word) bool {
	return w.hasFields(x, heap.KindVector, w.heap.Len(x))
}

// arrayOf returns the dimensions of an array, and the vector of its elements.
func (w *World) arrayOf(x heap.Word) (dims []int, elements heap.Word, ok bool) {
	if !w.hasFields(x, heap.KindArray, 2) || !w.isVector(w.get(x, 0)) || !w.isVector(w.get(x, 1)) {
		return nil, 0, false
	}
	elements = w.get(x, 1)
	size := 1
	for _, d := range w.fields(w.get(x, 0)) {
		n, isFixnum := d.Fixnum()
		if !isFixnum || n < 0 {
			return nil, 0, false
		}
		dims = append(dims, int(n))
		// More than any vector has is enough.
		size = int(min(int64(size)*min(n, api.MaxWords), api.MaxWords))
	}
	return dims, elements, size == w.heap.Len(elements)
}

func (w *World) isArray(x heap.Word) bool {
	switch w.heap.Kind(x) {
	case heap.KindString, heap.KindBits:
		return w.isRaw(x, w.heap.Kind(x))
	case heap.KindVector:
		return w.isVector(x)
	case heap.KindArray:
		_, _, ok := w.arrayOf(x)
		return ok
	}
	return false
}

func (w *World) isFunction(x heap.Word) bool {
	switch w.heap.Kind(x) {
	case heap.KindBuiltin, heap.KindClosure, heap.KindCode:
		return true
	}
	return false
}

// A spine is how a list ends: with what is no cons, or with a cons that was met.
type spine struct {
	end      heap.Word
	circular bool
}

// conses goes through the conses of a list, up to its end, or to a cons that was met. The marked one is moved on now and then, so that each circle comes back to it.
func (w *World) conses(x heap.Word, s *spine) iter.Seq[heap.Word] {
	return func(yield func(heap.Word) bool) {
		met, steps, next := heap.Unbound, 0, 1
		for w.isCons(x) {
			if x == met {
				s.circular = true
				break
			}
			if steps++; steps == next {
				met, steps, next = x, 0, 2*next
			}
			if !yield(x) {
				return
			}
			x = w.get(x, 1)
		}
		s.end = x
	}
}

// isProper reports whether a word is a proper list.
func (w *World) isProper(x heap.Word) bool {
	var s spine
	for range w.conses(x, &s) {
		continue
	}
	return !s.circular && s.end == heap.Nil
}

// elements returns the elements of a proper list.
func (w *World) elements(x heap.Word) []heap.Word {
	var l []heap.Word
	for c := range w.conses(x, &spine{}) {
		l = append(l, w.get(c, 0))
	}
	return l
}

func (w *World) isSequence(x heap.Word) bool {
	return w.isString(x) || w.isBits(x) || w.isVector(x) || w.isProper(x)
}

// length returns how many characters a string has.
func length(s string) int { return utf8.RuneCountInString(s) }

// number returns the form of a number.
func (w *World) number(x heap.Word) (api.Form, bool) {
	if _, ok := x.Fixnum(); ok || w.heap.Kind(x) != heap.KindComplex {
		return w.real(x)
	}
	if !w.hasFields(x, heap.KindComplex, 2) {
		return api.Form{}, false
	}
	re, ok := w.real(w.get(x, 0))
	im, ok2 := w.real(w.get(x, 1))
	if !ok || !ok2 {
		return api.Form{}, false
	}
	return api.Form{Kind: api.FormComplex, Kids: []api.Form{re, im}}, true
}

// real returns the form of a number that is not complex.
func (w *World) real(x heap.Word) (api.Form, bool) {
	if n, ok := x.Fixnum(); ok {
		return integer(n), true
	}
	kind := w.heap.Kind(x)
	if kind < heap.KindInt || kind > heap.KindDouble || !w.isRaw(x, kind) {
		return api.Form{}, false
	}
	return api.Form{Kind: kind, Text: w.text(x)}, true
}

// formOf returns the form of an object, or of the symbol that stands for one without a form.
func (w *World) formOf(x heap.Word) api.Form {
	f, e := w.Show(x)
	if e != api.OK {
		return forms.Symbol(strange, "OBJECT")
	}
	return f
}
