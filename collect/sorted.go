package collect

import (
	"slices"

	"commonform/heap"
)

// A sorted heap has the objects that a collection keeps, by the space in which they lie behind it, in order.
type sorted struct {
	met        map[heap.Word]bool
	old, young []heap.Word
	promoted   int
}

// sort divides the objects that are kept; the young ones ahead of the place aged become old.
func (s *sorted) sort(h *heap.Heap, objects []heap.Word, aged int) {
	for _, w := range objects {
		switch {
		case w == heap.Nil || !s.met[w]:
		case !isYoung(h, w):
			s.old = append(s.old, w)
		case h.Place(w) < aged:
			s.old = append(s.old, w)
			s.promoted++
		default:
			s.young = append(s.young, w)
		}
	}
}

// lose returns how many weak references and ephemerons that are kept lose what they refer to. Keep makes the reference Unbound, so here only the value is left to do.
func (s *sorted) lose(h *heap.Heap) int {
	lost := 0
	for _, w := range slices.Concat(s.old, s.young) {
		if !s.loses(h, w) {
			continue
		}
		lost++
		if isEphemeron(h, w) {
			h.Set(w, valueField, heap.Unbound)
		}
	}
	return lost
}

// loses reports whether an object is a weak reference, or an ephemeron, to what is let go.
func (s *sorted) loses(h *heap.Heap, w heap.Word) bool {
	if h.Kind(w) != heap.KindWeak && !isEphemeron(h, w) {
		return false
	}
	x, _ := h.Get(w, keyField)
	return x.IsRef() && !s.met[x]
}
