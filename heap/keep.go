package heap

import "commonform/api"

// A move says where each object that is kept lies behind it.
type move struct {
	to   []Word // the new references by the old places; no reference for what is gone
	old  int    // the place at which the young objects begin
	size int    // the words that all take
}

// Keep lays some objects anew as old ones, and some as young ones; all others are gone.
func (h *Heap) Keep(old, young []Word) api.Errno {
	if !h.isMade() {
		return api.ErrArg
	}
	m := move{to: make([]Word, len(h.words))}
	if e := h.plan(&m, []Word{Nil}); e != api.OK {
		return e
	}
	if e := h.plan(&m, old); e != api.OK {
		return e
	}
	m.old = m.size
	if e := h.plan(&m, young); e != api.OK {
		return e
	}
	h.lay(m, old, young)
	return api.OK
}

// plan gives some objects the next places.
func (h *Heap) plan(m *move, objects []Word) api.Errno {
	for _, w := range objects {
		place, ok := h.find(w)
		if !ok {
			return ErrWord
		}
		if m.to[place].IsRef() {
			return api.ErrTwice
		}
		m.to[place] = reference(m.size)
		m.size += h.header(place).size()
	}
	return api.OK
}

// lay puts the objects at their new places.
func (h *Heap) lay(m move, old, young []Word) {
	was := *h
	h.words, h.heads = make([]Word, 0, m.size), make([]uint64, 0, m.size/64+1)
	h.old = m.old
	h.moves++
	for _, objects := range [][]Word{{Nil}, old, young} {
		for _, w := range objects {
			place, _ := was.find(w)
			at := h.add(was.header(place))
			copy(h.contents(at), was.contents(place))
			m.follow(h.fields(at))
		}
	}
	for i := range h.roots {
		h.roots[i].word = m.new(h.roots[i].word)
	}
}

// follow changes words to what they are behind the move.
func (m move) follow(words []Word) {
	for i, w := range words {
		words[i] = m.new(w)
	}
}

// new returns a word as it is behind the move.
func (m move) new(w Word) Word {
	if !w.IsRef() {
		return w
	}
	if to := m.to[w>>tagBits]; to.IsRef() {
		return to
	}
	return Unbound
}

// Moves returns how often Keep has laid objects anew.
func (h *Heap) Moves() int {
	if h == nil {
		return 0
	}
	return h.moves
}
