package table_test

import (
	"math/rand"
	"slices"
	"strconv"
	"testing"

	"commonform/api"
	"commonform/heap"
	"commonform/table"
)

// holdCool looks at the fields of a cool table and of its entries.
func holdCool(t *testing.T, h *heap.Heap, m heap.Word) {
	t.Helper()
	test, weak, _ := table.Test(h, m)
	keys, _ := table.Keys(h, m)
	values, _ := table.Values(h, m)
	is(t, "Cool", table.Cool(h, m), api.OK)
	flag, kind := fix(0), heap.KindEntry
	if weak {
		flag, kind = fix(1), heap.KindEphemeron
	}
	l, _ := fields(h, m)
	if !slices.Equal(l[:3], []heap.Word{fix(test), flag, fix(len(keys))}) || l[4] != heap.Nil {
		t.Fatalf("a cool table has the fields %v", l)
	}
	at := l[3]
	for i, k := range keys {
		entry, _ := fields(h, at)
		if h.Kind(at) != kind || len(entry) != 4 || entry[0] != k || entry[1] != values[i] || entry[3] != 0 {
			t.Fatalf("an entry of a cool table is %v", entry)
		}
		at = entry[2]
	}
	if at != heap.Nil {
		t.Fatalf("behind the last entry of a cool table is %d", at)
	}
}

// cells returns the Cells of some words, without an error.
func cells(t *testing.T, h *heap.Heap, words ...heap.Word) ([]heap.Cell, []heap.Field) {
	t.Helper()
	l, f, e := h.Cells(words)
	is(t, "Cells", e, api.OK)
	return l, f
}

// Nothing of a cool table depends on places: it has the same Cells wherever its objects lie, and one that Lay has laid is as good as it.
func TestCool(t *testing.T) {
	for seed := range int64(100) {
		s := newScene(t, seed)
		for range 150 {
			s.step(func() { moveAll(t, s.r, s.h) })
		}
		for test := range 4 {
			for _, root := range s.tables[test] {
				var words []heap.Word
				for i := range s.words {
					words = append(words, s.at(i))
				}
				holdCool(t, s.h, s.at(root))
				l, f := cells(t, s.h, append(words, s.at(root))...)
				moveAll(t, s.r, s.h)
				table.Get(s.h, s.at(root), fix(99))
				is(t, "Cool", table.Cool(s.h, s.at(root)), api.OK)
				for i := range words {
					words[i] = s.at(i)
				}
				again, those := cells(t, s.h, append(words, s.at(root))...)
				if !slices.Equal(f, those) || !slices.EqualFunc(l, again, func(a, b heap.Cell) bool {
					return a.Kind == b.Kind && a.Bytes == b.Bytes && slices.Equal(a.Fields, b.Fields)
				}) {
					t.Fatalf("seed %d: Cells of a cool table depend on places", seed)
				}
				s.goOn(test, l, f)
			}
		}
		s.hold()
	}
}

// goOn does with a copy of a table, in another heap, what the model does.
func (s *scene) goOn(test int, l []heap.Cell, f []heap.Field) {
	s.t.Helper()
	h := mustHeap(s.t, 20000)
	for range s.r.Intn(5) {
		made(s.t, h, heap.KindBox, 8)
	}
	words, e := h.Lay(l, f)
	is(s.t, "Lay", e, api.OK)
	m := words[len(words)-1]
	pairs := slices.Clone(s.models[test])
	for range 30 {
		key, value := s.r.Intn(s.words), s.r.Intn(s.words)
		i := slices.IndexFunc(pairs, func(x entry) bool { return same(s.t, h, test, words[x.key], words[key]) })
		w, ok, e := table.Get(h, m, words[key])
		if ok != (i >= 0) || e != api.OK || ok && w != words[pairs[i].value] {
			s.t.Fatalf("Get in a copy = %d, %v, %v", w, ok, e)
		}
		switch {
		case s.r.Intn(2) == 0:
			put(s.t, h, m, words[key], words[value])
			if i >= 0 {
				pairs[i].value = value
			} else {
				pairs = append(pairs, entry{key, value})
			}
		case i >= 0:
			pairs = slices.Delete(pairs, i, i+1)
			fallthrough
		default:
			if ok, e := table.Remove(h, m, words[key]); ok != (i >= 0) || e != api.OK {
				s.t.Fatalf("Remove in a copy = %v, %v", ok, e)
			}
		}
	}
	var want []heap.Word
	for _, x := range pairs {
		want = append(want, words[x.key], words[x.value])
	}
	has(s.t, h, m, want...)
}

// A table that was copied as it was, with all that it needs for looking up, finds its keys at their new places.
func TestCopiesThatAreNotCool(t *testing.T) {
	for _, n := range []int{3, 9, 12, 100} {
		h := mustHeap(t, 5000)
		m := mustTable(t, h, table.EqlTest, false)
		var keys []heap.Word
		for i := range n {
			keys = append(keys, cons(t, h, fix(i), heap.Nil))
			put(t, h, m, keys[i], fix(i))
		}
		l, f := cells(t, h, append(keys, m)...)
		k, g := cells(t, h, append([]heap.Word{m}, keys...)...)
		words, e := mustHeap(t, 5000).Lay(l, f)
		is(t, "Lay", e, api.OK)
		other := mustHeap(t, 5000)
		others, e := other.Lay(k, g)
		is(t, "Lay", e, api.OK)
		again, e := h.Lay(l, f)
		is(t, "Lay", e, api.OK)
		for i := range n {
			w, ok, _ := table.Get(h, again[n], again[i])
			if !ok || w != fix(i) {
				t.Errorf("%d keys: Get in a copy = %d, %v", n, w, ok)
			}
			w, ok, _ = table.Get(other, others[0], others[i+1])
			if !ok || w != fix(i) {
				t.Errorf("%d keys: Get in a copy in another heap = %d, %v", n, w, ok)
			}
		}
		if len(words) != n+1 {
			t.Error("Lay")
		}
	}
}

// Tables that others have spoilt tell nothing that is specified, but all calls end.
func TestSpoiltTables(t *testing.T) {
	for seed := range int64(400) {
		r := rand.New(rand.NewSource(seed))
		h := mustHeap(t, 3000)
		m := mustTable(t, h, r.Intn(4), r.Intn(2) == 0)
		for i := range r.Intn(30) {
			table.Put(h, m, str(t, h, strconv.Itoa(i)), m)
		}
		for range 1 + r.Intn(4) {
			l := append(h.Objects(), fix(1), fix(-1), fix(1<<40), heap.Unbound, fix(1<<59))
			at := h.Objects()
			to := at[r.Intn(len(at))]
			if r.Intn(2) == 0 {
				to = m
			}
			h.Set(to, r.Intn(6), l[r.Intn(len(l))])
		}
		if r.Intn(4) == 0 {
			h.Set(m, 4, made(t, h, heap.KindVector, make([]heap.Word, r.Intn(5))...))
		}
		if r.Intn(4) == 0 {
			h.Raw(heap.KindString, string(make([]byte, 8*(h.Limit()-h.Used()-1))))
		}
		if r.Intn(4) == 0 {
			l := h.Objects()[1:]
			h.Keep(nil, l[:r.Intn(len(l)+1)])
		}
		for range 8 {
			for _, c := range calls() {
				l := h.Objects()
				c.do(h, [3]heap.Word{m, l[r.Intn(len(l))], l[r.Intn(len(l))]})
			}
		}
	}
}
