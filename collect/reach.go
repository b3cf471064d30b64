package collect

import (
	"iter"

	"commonform/api"
	"commonform/heap"
)

const (
	keyField   = 0 // of an ephemeron, or the reference of a weak one
	valueField = 1
	restField  = 2 // the first field of an ephemeron that is strong
)

// isEphemeron reports whether an object has a key and a value of its own kind; one that is too short has not.
func isEphemeron(h *heap.Heap, w heap.Word) bool {
	if h.Kind(w) != heap.KindEphemeron {
		return false
	}
	_, e := h.Get(w, valueField)
	return e == api.OK
}

// fields goes through the fields of an object from one of them on; there are none in an object with bytes.
func fields(h *heap.Heap, w heap.Word, first int) iter.Seq[heap.Word] {
	return func(yield func(heap.Word) bool) {
		for i := first; ; i++ {
			x, e := h.Get(w, i)
			if e != api.OK || !yield(x) {
				return
			}
		}
	}
}

// strong goes through the strong parts of an object.
func strong(h *heap.Heap, w heap.Word) iter.Seq[heap.Word] {
	return func(yield func(heap.Word) bool) {
		if h.Kind(w) == heap.KindWeak {
			return
		}
		first := 0
		if isEphemeron(h, w) {
			first = restField
		}
		for x := range fields(h, w, first) {
			if x.IsRef() && !yield(x) {
				return
			}
		}
	}
}

// reached returns the objects that are reached from some words.
func reached(h *heap.Heap, from []heap.Word) map[heap.Word]bool {
	met := make(map[heap.Word]bool, h.Used()/4)
	var queue []heap.Word
	meet := func(w heap.Word) {
		if w.IsRef() && !met[w] {
			met[w] = true
			queue = append(queue, w)
		}
	}
	for _, w := range from {
		meet(w)
	}
	waiting := map[heap.Word][]heap.Word{} // ephemerons by their keys, which were not met when they were asked
ask:
	for len(queue) > 0 {
		w := queue[len(queue)-1]
		queue = queue[:len(queue)-1]
		for x := range strong(h, w) {
			meet(x)
		}
		queue = append(queue, waiting[w]...) // these are asked again, now that their key is met
		delete(waiting, w)
		if !isEphemeron(h, w) {
			continue ask
		}
		key, _ := h.Get(w, keyField)
		if key.IsRef() && !met[key] {
			waiting[key] = append(waiting[key], w)
			continue ask
		}
		value, _ := h.Get(w, valueField)
		meet(value)
	}
	return met
}
