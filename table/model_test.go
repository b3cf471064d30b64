package table_test

import (
	"math/rand"
	"slices"
	"testing"

	"commonform/api"
	"commonform/collect"
	"commonform/heap"
	"commonform/table"
)

// A model of a table is a list of pairs, whose words are those of roots.
type model []entry

type entry struct{ key, value int }

// A scene has a heap whose roots from 0 on have all words that are used, and, for each test, a table that is weak and one that is not.
type scene struct {
	t      *testing.T
	r      *rand.Rand
	h      *heap.Heap
	c      *collect.Collector
	words  int
	tables [4][2]int
	models [4]model
}

func newScene(t *testing.T, seed int64) *scene {
	s := &scene{t: t, r: rand.New(rand.NewSource(seed)), h: mustHeap(t, 8000)}
	s.c, _ = collect.New(s.h)
	for range 20 + s.r.Intn(20) {
		addAny(s.r, s.h)
	}
	words := append(s.h.Objects(), char('a'), char('A'), char('b'))
	for i := range s.r.Intn(30) {
		words = append(words, fix(i))
	}
	for _, w := range words {
		s.h.Root(w)
	}
	s.words = len(words)
	for test := range s.tables {
		s.tables[test] = [2]int{s.h.Root(mustTable(t, s.h, test, false)), s.h.Root(mustTable(t, s.h, test, true))}
	}
	return s
}

func (s *scene) at(root int) heap.Word {
	w, _ := s.h.At(root)
	return w
}

// find returns the index of the first pair whose key is the same now.
func (s *scene) find(test, key int) int {
	return slices.IndexFunc(s.models[test], func(x entry) bool { return same(s.t, s.h, test, s.at(x.key), s.at(key)) })
}

// each does the same with the two tables of a test.
func (s *scene) each(test int, do func(m heap.Word)) {
	for _, root := range s.tables[test] {
		do(s.at(root))
	}
}

func (s *scene) put(test, key, value int) {
	i := s.find(test, key)
	if i >= 0 {
		s.models[test][i].value = value
	} else {
		s.models[test] = append(s.models[test], entry{key, value})
	}
	s.each(test, func(m heap.Word) { put(s.t, s.h, m, s.at(key), s.at(value)) })
}

func (s *scene) get(test, key int) {
	i := s.find(test, key)
	want := heap.Nil
	if i >= 0 {
		want = s.at(s.models[test][i].value)
	}
	s.each(test, func(m heap.Word) {
		w, ok, e := table.Get(s.h, m, s.at(key))
		if w != want || ok != (i >= 0) || e != api.OK {
			s.t.Fatalf("Get by the test %d = %d, %v, %v; expected %d", test, w, ok, e, want)
		}
	})
}

func (s *scene) remove(test, key int) {
	i := s.find(test, key)
	if i >= 0 {
		s.models[test] = slices.Delete(s.models[test], i, i+1)
	}
	s.each(test, func(m heap.Word) {
		ok, e := table.Remove(s.h, m, s.at(key))
		if ok != (i >= 0) || e != api.OK {
			s.t.Fatalf("Remove by the test %d = %v, %v", test, ok, e)
		}
	})
}

// step does something with the tables of a test, or with all objects.
func (s *scene) step(keep func()) {
	test, key, value := s.r.Intn(4), s.r.Intn(s.words), s.r.Intn(s.words)
	switch n := s.r.Intn(40); {
	case n < 18:
		s.put(test, key, value)
	case n < 26:
		s.get(test, key)
	case n < 33:
		s.remove(test, key)
	case n < 34:
		s.h.Set(s.at(key), s.r.Intn(2), s.at(value)) // also of what is a key
	case n < 37:
		keep()
	case n < 39:
		s.each(test, func(m heap.Word) { is(s.t, "Cool", table.Cool(s.h, m), api.OK) })
	default:
		if s.r.Intn(4) == 0 {
			s.models[test] = nil
			s.each(test, func(m heap.Word) { is(s.t, "Clear", table.Clear(s.h, m), api.OK) })
		}
	}
}

func (s *scene) hold() {
	s.t.Helper()
	for test := range s.tables {
		var want []heap.Word
		for _, x := range s.models[test] {
			want = append(want, s.at(x.key), s.at(x.value))
		}
		s.each(test, func(m heap.Word) {
			has(s.t, s.h, m, want...)
			s.holdEntries(m, want)
		})
	}
}

// holdEntries looks for each key and its value in the entries that are met from a table.
func (s *scene) holdEntries(m heap.Word, want []heap.Word) {
	s.t.Helper()
	_, weak, _ := table.Test(s.h, m)
	kind := heap.KindEntry
	if weak {
		kind = heap.KindEphemeron
	}
	found := map[[2]heap.Word]bool{}
	for _, w := range reachedByTable(s.h, m) {
		if l, _ := fields(s.h, w); s.h.Kind(w) == kind && len(l) == 4 {
			found[[2]heap.Word{l[0], l[1]}] = true
		}
	}
	for i := 0; i < len(want); i += 2 {
		if !found[[2]heap.Word{want[i], want[i+1]}] {
			s.t.Fatalf("no entry has the key %d and the value %d", want[i], want[i+1])
		}
	}
	if n, _ := s.h.Get(m, 2); n != fix(len(want)/2) {
		s.t.Fatalf("the third field of a table with %d keys is %d", len(want)/2, n)
	}
}

// reachedByTable returns what is met from a table, but through no keys and values.
func reachedByTable(h *heap.Heap, m heap.Word) []heap.Word {
	l, _ := fields(h, m)
	for i := 0; i < len(l); i++ {
		parts, _ := fields(h, l[i])
		if kind := h.Kind(l[i]); kind == heap.KindEntry || kind == heap.KindEphemeron {
			parts = parts[2:]
		} else if kind == heap.KindSymbol {
			continue
		}
		for _, x := range parts {
			if x.IsRef() && !slices.Contains(l, x) {
				l = append(l, x)
			}
		}
	}
	return l
}

// P17.1, P17.3, P17.5: tables do what a list of pairs does, whatever is done with the heap, also with the keys.
func TestModel(t *testing.T) {
	for seed := range int64(250) {
		s := newScene(t, seed)
		for range 200 {
			s.step(func() { moveAll(t, s.r, s.h) })
			if s.r.Intn(8) == 0 {
				s.hold()
			}
			if s.h.Used() > 7000 {
				s.c.Major()
			}
		}
		s.hold()
	}
}

// P17.4: collections change nothing that a table tells.
func TestCollections(t *testing.T) {
	for seed := range int64(150) {
		s := newScene(t, seed)
		for range 150 {
			s.step(func() {})
			if s.r.Intn(3) == 0 {
				s.c.Minor()
			} else if s.r.Intn(2) == 0 {
				s.c.Major()
			}
			s.hold()
		}
	}
}

// P17.3: a new table with all keys and values of another one has the same Keys and Values.
func TestCopies(t *testing.T) {
	for seed := range int64(60) {
		s := newScene(t, seed)
		for range 100 {
			s.put(s.r.Intn(4), s.r.Intn(s.words), s.r.Intn(s.words))
		}
		for test := range 4 {
			s.each(test, func(m heap.Word) {
				keys, _ := table.Keys(s.h, m)
				values, _ := table.Values(s.h, m)
				var want []heap.Word
				other := mustTable(t, s.h, test, false)
				for i, k := range keys {
					put(t, s.h, other, k, values[i])
					want = append(want, k, values[i])
				}
				has(t, s.h, other, want...)
			})
		}
	}
}

// Keys that became the same when others changed them: the first one counts.
func TestChangedKeys(t *testing.T) {
	for _, n := range []int{0, 20} {
		for _, test := range []int{table.EqualTest, table.EqualpTest} {
			h := mustHeap(t, 2000)
			m := mustTable(t, h, test, false)
			for i := range n {
				put(t, h, m, fix(100+i), heap.Nil)
			}
			a, b := list(t, h, fix(1)), list(t, h, fix(2))
			put(t, h, m, a, char('a'))
			put(t, h, m, b, char('b'))
			is(t, "Set", h.Set(a, 0, fix(2)), api.OK)
			if _, ok, _ := table.Get(h, m, list(t, h, fix(1))); ok {
				t.Error("the old key is there")
			}
			for i, want := range []heap.Word{char('a'), char('b')} {
				if w, _, _ := table.Get(h, m, list(t, h, fix(2))); w != want {
					t.Errorf("%d: Get of the same key = %d", i, w)
				}
				if ok, _ := table.Remove(h, m, b); !ok {
					t.Error("Remove of the same key")
				}
			}
			if c, _ := table.Count(h, m); c != n {
				t.Errorf("Count = %d; expected %d", c, n)
			}
		}
		h := mustHeap(t, 2000)
		m := mustTable(t, h, table.EqlTest, false)
		for i := range n {
			put(t, h, m, fix(100+i), heap.Nil)
		}
		z := made(t, h, heap.KindComplex, fix(1), fix(2))
		put(t, h, m, z, char('z'))
		is(t, "Set", h.Set(z, 0, fix(3)), api.OK)
		for re, want := range map[int]heap.Word{1: heap.Nil, 3: char('z')} {
			if w, _, _ := table.Get(h, m, made(t, h, heap.KindComplex, fix(re), fix(2))); w != want {
				t.Errorf("Get of the complex number with %d = %d", re, w)
			}
		}
		h = mustHeap(t, 2000)
		m = mustTable(t, h, table.EqualpTest, false)
		for i := range n {
			put(t, h, m, fix(100+i), heap.Nil)
		}
		v := made(t, h, heap.KindVector, char('x'))
		put(t, h, m, v, char('v'))
		put(t, h, m, str(t, h, "y"), char('s'))
		is(t, "Set", h.Set(v, 0, char('Y')), api.OK)
		for _, want := range []heap.Word{char('v'), char('s'), heap.Nil} {
			if w, _, _ := table.Get(h, m, str(t, h, "y")); w != want {
				t.Errorf("Get of a string = %d; expected %d", w, want)
			}
			table.Remove(h, m, str(t, h, "Y"))
		}
	}
}
