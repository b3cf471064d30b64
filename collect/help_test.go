package collect_test

import (
	"math/rand"
	"slices"
	"testing"

	"commonform/api"
	"commonform/collect"
	"commonform/heap"
)

func is(t *testing.T, what string, got, want api.Errno) {
	t.Helper()
	if got != want {
		t.Errorf("%s: error %v; expected %v", what, got, want)
	}
}

func mustHeap(t *testing.T, limit, young int) (*heap.Heap, *collect.Collector) {
	t.Helper()
	h, e := heap.New(limit, young)
	if e != api.OK {
		t.Fatalf("heap.New(%d, %d): %v", limit, young, e)
	}
	c, e := collect.New(h)
	if e != api.OK || c.Heap() != h {
		t.Fatalf("New: %v", e)
	}
	return h, c
}

// made returns a new object with these fields.
func made(t *testing.T, h *heap.Heap, kind int, fields ...heap.Word) heap.Word {
	t.Helper()
	w, e := h.New(kind, len(fields))
	if e != api.OK {
		t.Fatalf("New(%d, %d): %v", kind, len(fields), e)
	}
	for i, x := range fields {
		is(t, "Set", h.Set(w, i, x), api.OK)
	}
	return w
}

func cons(t *testing.T, h *heap.Heap, a, d heap.Word) heap.Word {
	t.Helper()
	return made(t, h, heap.KindCons, a, d)
}

// at returns the word of a root.
func at(h *heap.Heap, root int) heap.Word {
	w, _ := h.At(root)
	return w
}

// fields returns the fields of an object.
func fields(h *heap.Heap, w heap.Word) []heap.Word {
	var l []heap.Word
	for i := range h.Len(w) {
		x, e := h.Get(w, i)
		if e != api.OK {
			return nil
		}
		l = append(l, x)
	}
	return l
}

func minor(t *testing.T, c *collect.Collector) collect.Report {
	t.Helper()
	r, e := c.Minor()
	is(t, "Minor", e, api.OK)
	return r
}

func major(t *testing.T, c *collect.Collector) collect.Report {
	t.Helper()
	r, e := c.Major()
	is(t, "Major", e, api.OK)
	return r
}

// A scene is all that there is of a heap at a time, with the objects by their indices.
type scene struct {
	objects []object
	old     int // how many of them are old
	roots   []value
}

type object struct {
	kind   int
	raw    bool
	bytes  string
	fields []value
}

// A value is an immediate word (at -1), or the index of an object.
type value struct {
	word heap.Word
	at   int
}

func (o object) size() int {
	if o.raw {
		return 1 + (len(o.bytes)+7)/8
	}
	return 1 + len(o.fields)
}

func (s scene) words() int {
	n := 0
	for _, o := range s.objects {
		n += o.size()
	}
	return n
}

func sceneOf(h *heap.Heap) scene {
	var s scene
	objects := h.Objects()
	valueOf := func(w heap.Word) value {
		if w.IsRef() {
			return value{at: slices.Index(objects, w)}
		}
		return value{w, -1}
	}
	for _, w := range objects {
		o := object{kind: h.Kind(w)}
		bytes, e := h.Bytes(w)
		o.raw, o.bytes = e == api.OK, bytes
		for _, x := range fields(h, w) {
			o.fields = append(o.fields, valueOf(x))
		}
		s.objects = append(s.objects, o)
		if h.Place(w) < h.Old() {
			s.old++
		}
	}
	for _, r := range h.Roots() {
		s.roots = append(s.roots, valueOf(at(h, r)))
	}
	return s
}

func (s scene) is(other scene) bool {
	return s.old == other.old && slices.Equal(s.roots, other.roots) && slices.EqualFunc(s.objects, other.objects, func(a, b object) bool {
		return a.kind == b.kind && a.raw == b.raw && a.bytes == b.bytes && slices.Equal(a.fields, b.fields)
	})
}

func (o object) isEphemeron() bool { return o.kind == heap.KindEphemeron && len(o.fields) >= 2 }

// parts returns what is reached from an object that is reached, when some objects are.
func (o object) parts(reached []bool) []value {
	switch {
	case o.kind == heap.KindWeak:
		return nil
	case !o.isEphemeron():
		return o.fields
	}
	l := slices.Clone(o.fields[2:])
	if key := o.fields[0].at; key < 0 || reached[key] {
		l = append(l, o.fields[1])
	}
	return l
}

// reached looks at all objects again and again until no more are reached from the roots, NIL and the first so many objects.
func (s scene) reached(first int) []bool {
	reached := make([]bool, len(s.objects))
	changed := false
	reach := func(v value) {
		if v.at >= 0 && !reached[v.at] {
			reached[v.at], changed = true, true
		}
	}
	for i := range max(1, first) {
		reach(value{at: i})
	}
	for _, v := range s.roots {
		reach(v)
	}
	for changed {
		changed = false
		for i, o := range s.objects {
			if reached[i] {
				for _, v := range o.parts(reached) {
					reach(v)
				}
			}
		}
	}
	return reached
}

// An oracle knows of a heap what a collector has to keep in mind: which young objects have an age, and who waits.
type oracle struct {
	aged     map[int]bool
	watchers []watcher
	ended    []int
}

type watcher struct{ at, id int }

// collect returns the scene behind a collection, and its report.
func (o *oracle) collect(s scene, major bool) (scene, collect.Report) {
	first := s.old
	if major {
		first = 0
	}
	reached := s.reached(first)
	var order []int // the new objects by the indices of the old ones
	r := collect.Report{Major: major, Before: s.words()}
	for i := range s.old {
		if reached[i] {
			order = append(order, i)
		}
	}
	for i := s.old; i < len(s.objects); i++ {
		if reached[i] && o.aged[i] {
			order = append(order, i)
			r.Promoted++
		}
	}
	after := scene{old: len(order)}
	for i := s.old; i < len(s.objects); i++ {
		if reached[i] && !o.aged[i] {
			order = append(order, i)
		}
	}
	follow := func(v value) value {
		if v.at < 0 {
			return v
		}
		if v.at = slices.Index(order, v.at); v.at < 0 {
			v.word = heap.Unbound
		}
		return v
	}
	for _, i := range order {
		x := s.objects[i]
		isLost := (x.kind == heap.KindWeak && len(x.fields) > 0 || x.isEphemeron()) && x.fields[0].at >= 0 && !reached[x.fields[0].at]
		x.fields = slices.Clone(x.fields)
		for k, v := range x.fields {
			x.fields[k] = follow(v)
		}
		if isLost {
			r.Lost++
			if x.isEphemeron() {
				x.fields[1] = value{heap.Unbound, -1}
			}
		}
		after.objects = append(after.objects, x)
	}
	for _, v := range s.roots {
		after.roots = append(after.roots, follow(v))
	}
	r.After = after.words()
	o.move(order, after.old)
	return after, r
}

// move tells who waits no more, and which young objects have an age now: all.
func (o *oracle) move(order []int, old int) {
	var left []watcher
	for _, w := range o.watchers {
		if at := slices.Index(order, w.at); at >= 0 {
			left = append(left, watcher{at, w.id})
		} else {
			o.ended = append(o.ended, w.id)
		}
	}
	o.watchers = left
	o.aged = map[int]bool{}
	for i := old; i < len(order); i++ {
		o.aged[i] = true
	}
}

func (o *oracle) waiting() []int {
	var l []int
	for _, w := range o.watchers {
		l = append(l, w.id)
	}
	return l
}

// anyWord is a fixnum, Unbound, or a reference to an object.
func anyWord(r *rand.Rand, h *heap.Heap) heap.Word {
	switch r.Intn(6) {
	case 0:
		return heap.Word(8 * r.Intn(5))
	case 1:
		return []heap.Word{heap.Unbound, heap.Nil}[r.Intn(2)]
	}
	l := h.Objects()
	return l[r.Intn(len(l))]
}

// change does something with a heap: it makes an object, or changes fields or roots.
func change(r *rand.Rand, h *heap.Heap) {
	switch n := r.Intn(12); {
	case n < 4:
		kinds := []int{heap.KindCons, heap.KindWeak, heap.KindWeak, heap.KindEphemeron, heap.KindEphemeron, heap.KindEphemeron, heap.KindVector, heap.KindTable}
		w, e := h.New(kinds[r.Intn(len(kinds))], r.Intn(5))
		for i := range h.Len(w) {
			if e == api.OK && r.Intn(4) > 0 {
				h.Set(w, i, anyWord(r, h))
			}
		}
	case n < 5:
		h.Raw([]int{heap.KindString, heap.KindWeak, heap.KindEphemeron}[r.Intn(3)], "some bytes"[r.Intn(10):])
	case n < 9:
		h.Set(anyWord(r, h), r.Intn(4), anyWord(r, h))
	case n < 11:
		h.Root(anyWord(r, h))
	default:
		if l := h.Roots(); len(l) > 0 {
			h.Drop(l[r.Intn(len(l))])
		}
	}
}
