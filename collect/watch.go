package collect

import (
	"slices"

	"commonform/api"
	"commonform/heap"
)

// A watcher waits for the end of an object.
type watcher struct {
	object heap.Word
	id     int
}

// Watch waits for the end of an object.
func (c *Collector) Watch(w heap.Word, id int) api.Errno {
	switch {
	case !c.isMade():
		return api.ErrArg
	case c.heap.Place(w) < 0:
		return heap.ErrWord
	case w == heap.Nil:
		return api.ErrArg
	}
	c.watchers = append(c.watchers, watcher{w, id})
	return api.OK
}

// tell ends the watchers whose objects are gone, and lets the others follow theirs.
func (c *Collector) tell(s sorted) {
	if len(c.watchers) == 0 {
		return
	}
	now := s.newWords(c.heap)
	var left []watcher
	for _, w := range c.watchers {
		object, ok := now[w.object]
		if !ok {
			c.ended = append(c.ended, w.id)
			continue
		}
		left = append(left, watcher{object, w.id})
	}
	c.watchers = left
}

// newWords returns what the references to the objects that were kept are behind the collection.
func (s sorted) newWords(h *heap.Heap) map[heap.Word]heap.Word {
	objects := h.Objects()[1:] // behind the first one they lie as Keep was told
	now := map[heap.Word]heap.Word{}
	for i, w := range slices.Concat(s.old, s.young) {
		now[w] = objects[i]
	}
	return now
}

// Ended returns the watchers whose objects are gone.
func (c *Collector) Ended() []int {
	if !c.isMade() {
		return nil
	}
	l := c.ended
	c.ended = nil
	return l
}

// Watched returns the watchers that wait.
func (c *Collector) Watched() []int {
	if !c.isMade() {
		return nil
	}
	var l []int
	for _, w := range c.watchers {
		l = append(l, w.id)
	}
	return l
}
