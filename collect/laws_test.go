package collect_test

import (
	"math/rand"
	"slices"
	"testing"

	"commonform/api"
	"commonform/heap"
)

// P16.1 to P16.5: a collector does what the definitions say, whatever was done with the heap.
func TestOracle(t *testing.T) {
	for seed := range int64(800) {
		r := rand.New(rand.NewSource(seed))
		h, c := mustHeap(t, 400+r.Intn(200), 1+r.Intn(150))
		o := &oracle{aged: map[int]bool{}}
		for step := range 60 {
			for range r.Intn(12) {
				change(r, h)
			}
			if l := h.Objects(); len(l) > 1 && r.Intn(2) == 0 {
				i := 1 + r.Intn(len(l)-1)
				is(t, "Watch", c.Watch(l[i], step), api.OK)
				o.watchers = append(o.watchers, watcher{i, step})
			}
			before := sceneOf(h)
			var live []heap.Word
			for i, isReached := range before.reached(0) {
				if isReached {
					live = append(live, h.Objects()[i])
				}
			}
			if !slices.Equal(c.Live(), live) {
				t.Fatalf("seed %d, step %d: Live = %v; expected %v", seed, step, c.Live(), live)
			}
			isMajor := r.Intn(3) == 0
			want, report := o.collect(before, isMajor)
			run := c.Minor
			if isMajor {
				run = c.Major
			}
			if got, e := run(); e != api.OK || got != report || !sceneOf(h).is(want) {
				t.Fatalf("seed %d, step %d: %+v, %v; expected %+v", seed, step, got, e, report)
			}
			if !slices.Equal(c.Watched(), o.waiting()) {
				t.Fatalf("seed %d, step %d: Watched = %v; expected %v", seed, step, c.Watched(), o.waiting())
			}
			if r.Intn(3) == 0 {
				if got := c.Ended(); !slices.Equal(got, o.ended) {
					t.Fatalf("seed %d, step %d: Ended = %v; expected %v", seed, step, got, o.ended)
				}
				o.ended = nil
			}
		}
	}
}

// P16.2: as long as nothing is weak, a collection changes no Cells of the roots, and Major leaves just what is live.
func TestKept(t *testing.T) {
	for seed := range int64(200) {
		r := rand.New(rand.NewSource(seed))
		h, c := mustHeap(t, 2000, 100)
		for range 100 {
			w, e := h.New([]int{heap.KindCons, heap.KindVector, heap.KindBox}[r.Intn(3)], r.Intn(5))
			for i := range h.Len(w) {
				if e == api.OK {
					h.Set(w, i, anyWord(r, h))
				}
			}
			if r.Intn(20) == 0 {
				h.Root(anyWord(r, h))
			}
			if r.Intn(10) > 0 {
				continue
			}
			cells, fields, _ := h.Cells(rootWords(h))
			live := len(c.Live())
			if r.Intn(2) == 0 {
				major(t, c)
				if len(h.Objects()) != live {
					t.Fatalf("seed %d: Major keeps %d objects of %d", seed, len(h.Objects()), live)
				}
				if r := major(t, c); r.After != r.Before {
					t.Fatalf("seed %d: a second Major: %+v", seed, r)
				}
			} else {
				minor(t, c)
			}
			again, those, _ := h.Cells(rootWords(h))
			if !slices.Equal(fields, those) || !slices.EqualFunc(cells, again, sameCell) || len(c.Live()) != live {
				t.Fatalf("seed %d: a collection changes Cells", seed)
			}
		}
	}
}

func sameCell(a, b heap.Cell) bool {
	return a.Kind == b.Kind && a.Raw == b.Raw && a.Bytes == b.Bytes && slices.Equal(a.Fields, b.Fields)
}

func rootWords(h *heap.Heap) []heap.Word {
	var l []heap.Word
	for _, r := range h.Roots() {
		l = append(l, at(h, r))
	}
	return l
}

// P16.3: what is kept by two collections is old.
func TestOldBehindTwo(t *testing.T) {
	for seed := range int64(200) {
		r := rand.New(rand.NewSource(seed))
		h, c := mustHeap(t, 1000, 100)
		for range 60 {
			change(r, h)
		}
		for range 2 {
			if r.Intn(2) == 0 {
				minor(t, c)
			} else {
				major(t, c)
			}
		}
		if h.Old() != h.Used() {
			t.Fatalf("seed %d: Old %d, Used %d", seed, h.Old(), h.Used())
		}
	}
}

// P16.6: collections at any places of a run change nothing that Cells of the roots tell in the end, if nothing is weak.
func TestCollectionsAnywhere(t *testing.T) {
	for seed := range int64(200) {
		run := func(often int) ([]heap.Cell, []heap.Field) {
			r, when := rand.New(rand.NewSource(seed)), rand.New(rand.NewSource(int64(often)))
			h, c := mustHeap(t, 30000, 50)
			for range 150 {
				step(r, h)
				if often == 0 || when.Intn(often) > 0 {
					continue
				}
				switch when.Intn(3) {
				case 0:
					minor(t, c)
				case 1:
					major(t, c)
				default:
					_, _, e := c.Step()
					is(t, "Step", e, api.OK)
				}
			}
			cells, fields, e := h.Cells(rootWords(h))
			is(t, "Cells", e, api.OK)
			return cells, fields
		}
		cells, fields := run(0)
		for _, often := range []int{1, 3, 20} {
			others, those := run(often)
			if !slices.EqualFunc(cells, others, sameCell) || !slices.Equal(fields, those) {
				t.Fatalf("seed %d, every %d: the Cells are others", seed, often)
			}
		}
	}
}

// step does something that does not depend on places: all words come from roots, and from what these have.
func step(r *rand.Rand, h *heap.Heap) {
	word := func() heap.Word {
		roots := h.Roots()
		if len(roots) == 0 || r.Intn(8) == 0 {
			return []heap.Word{heap.Nil, heap.Unbound, 8, 777}[r.Intn(4)]
		}
		w := at(h, roots[r.Intn(len(roots))])
		for range r.Intn(4) {
			if x, e := h.Get(w, r.Intn(3)); e == api.OK {
				w = x
			}
		}
		return w
	}
	switch r.Intn(8) {
	case 0, 1, 2:
		w, _ := h.New([]int{heap.KindCons, heap.KindVector, heap.KindBox}[r.Intn(3)], r.Intn(4))
		root := h.Root(w)
		for i := range h.Len(w) {
			h.Set(w, i, word())
		}
		if r.Intn(2) == 0 {
			h.Drop(root)
		}
	case 3:
		w, _ := h.Raw(heap.KindString, "some text"[r.Intn(9):])
		h.Root(w)
	case 4, 5:
		to := word()
		h.Set(to, r.Intn(3), word())
	case 6:
		h.Root(word())
	default:
		if l := h.Roots(); len(l) > 0 {
			i := l[r.Intn(len(l))]
			if r.Intn(2) == 0 {
				h.Drop(i)
			} else {
				h.Put(i, word())
			}
		}
	}
}
