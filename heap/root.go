package heap

import (
	"cmp"
	"slices"

	"commonform/api"
)

// A root holds a word.
type root struct {
	number int
	word   Word
}

// Root returns a new root that has a word.
func (h *Heap) Root(w Word) int {
	if !h.isMade() || !h.has(w) {
		return -1
	}
	number := h.nextRoot
	h.roots = append(h.roots, root{number, w})
	h.nextRoot++
	return number
}

// findRoot returns the index of a root in the list of all.
func (h *Heap) findRoot(number int) (int, api.Errno) {
	if !h.isMade() {
		return 0, api.ErrArg
	}
	i, ok := slices.BinarySearchFunc(h.roots, number, func(r root, n int) int { return cmp.Compare(r.number, n) })
	if !ok {
		return 0, api.ErrNone
	}
	return i, api.OK
}

// At returns the word of a root.
func (h *Heap) At(root int) (Word, api.Errno) {
	i, e := h.findRoot(root)
	if e != api.OK {
		return 0, e
	}
	return h.roots[i].word, api.OK
}

// Put changes the word of a root.
func (h *Heap) Put(root int, w Word) api.Errno {
	i, e := h.findRoot(root)
	if e != api.OK {
		return e
	}
	if !h.has(w) {
		return ErrWord
	}
	h.roots[i].word = w
	return api.OK
}

// Drop takes a root away.
func (h *Heap) Drop(root int) api.Errno {
	i, e := h.findRoot(root)
	if e != api.OK {
		return e
	}
	h.roots = slices.Delete(h.roots, i, i+1)
	return api.OK
}

// Roots returns all roots, ascending.
func (h *Heap) Roots() []int {
	if h == nil {
		return nil
	}
	var l []int
	for _, r := range h.roots {
		l = append(l, r.number)
	}
	return l
}
