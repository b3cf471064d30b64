package table_test

import (
	"math/rand"
	"slices"
	"testing"

	"commonform/api"
	"commonform/collect"
	"commonform/heap"
	"commonform/table"
)

// P17.5: keys that nobody else holds are gone behind a collection; all others are as before, in their order, and the table goes on.
func TestKeysAreGone(t *testing.T) {
	for seed := range int64(200) {
		r := rand.New(rand.NewSource(seed))
		h := mustHeap(t, 6000)
		c, _ := collect.New(h)
		test := r.Intn(4)
		root := h.Root(mustTable(t, h, test, true))
		m := func() heap.Word { w, _ := h.At(root); return w }
		held := map[int]int{} // the roots of the keys that are there, by their numbers
		var order []int
		next := 0
		for range 12 {
			for range r.Intn(25) {
				key := made(t, h, heap.KindBox, fix(next))
				value := fix(-next)
				if r.Intn(2) == 0 {
					value = cons(t, h, key, value) // what the value holds does not count
				}
				put(t, h, m(), key, value)
				held[next] = h.Root(key)
				order = append(order, next)
				next++
			}
			for n, key := range held {
				switch r.Intn(6) {
				case 0:
					is(t, "Drop", h.Drop(key), api.OK)
					delete(held, n)
				case 1:
					w, _ := h.At(key)
					if ok, e := table.Remove(h, m(), w); !ok || e != api.OK {
						t.Fatalf("Remove = %v, %v", ok, e)
					}
					order = slices.Delete(order, slices.Index(order, n), slices.Index(order, n)+1)
					is(t, "Drop", h.Drop(key), api.OK)
					delete(held, n)
				}
			}
			if _, e := c.Major(); e != api.OK {
				t.Fatal(e)
			}
			order = slices.DeleteFunc(order, func(n int) bool { _, ok := held[n]; return !ok })
			holdNumbers(t, h, m(), order, r)
			for n, key := range held {
				w, _ := h.At(key)
				if v, ok, e := table.Get(h, m(), w); !ok || e != api.OK || v != fix(-n) && h.Kind(v) != heap.KindCons {
					t.Fatalf("seed %d: Get of the key %d = %d, %v, %v", seed, n, v, ok, e)
				}
			}
		}
	}
}

// holdNumbers compares the numbers of all keys, asked for in one way or another.
func holdNumbers(t *testing.T, h *heap.Heap, m heap.Word, want []int, r *rand.Rand) {
	t.Helper()
	if r.Intn(3) == 0 {
		if n, e := table.Count(h, m); n != len(want) || e != api.OK {
			t.Fatalf("Count = %d, %v; expected %d", n, e, len(want))
		}
	}
	if r.Intn(2) == 0 {
		is(t, "Cool", table.Cool(h, m), api.OK)
		if n, _ := h.Get(m, 2); n != fix(len(want)) {
			t.Fatalf("a cool table has the count %d; expected %d", n, fix(len(want)))
		}
	}
	values, _ := table.Values(h, m)
	keys, _ := table.Keys(h, m)
	var got []int
	for _, k := range keys {
		w, _ := h.Get(k, 0)
		n, _ := w.Fixnum()
		got = append(got, int(n))
	}
	if !slices.Equal(got, want) || len(values) != len(keys) {
		t.Fatalf("the keys %v; expected %v", got, want)
	}
}

// All keys of a table may be gone, and then it is one without keys.
func TestAllAreGone(t *testing.T) {
	for _, n := range []int{1, 5, 50} {
		h := mustHeap(t, 3000)
		c, _ := collect.New(h)
		root := h.Root(mustTable(t, h, table.EqualTest, true))
		m, _ := h.At(root)
		for i := range n {
			put(t, h, m, list(t, h, fix(i)), fix(i))
		}
		c.Major()
		m, _ = h.At(root)
		if _, ok, e := table.Get(h, m, heap.Unbound); ok || e != api.OK {
			t.Errorf("Get of Unbound: %v, %v", ok, e)
		}
		if ok, e := table.Remove(h, m, heap.Unbound); ok || e != api.OK {
			t.Errorf("Remove of Unbound: %v, %v", ok, e)
		}
		has(t, h, m)
		put(t, h, m, fix(1), fix(2))
		has(t, h, m, fix(1), fix(2))
	}
}

// A weak table holds the values of keys that are held, and of those that are immediate.
func TestWeakValues(t *testing.T) {
	h := mustHeap(t, 1000)
	c, _ := collect.New(h)
	root := h.Root(mustTable(t, h, table.Eq, true))
	m, _ := h.At(root)
	key := made(t, h, heap.KindBox, fix(7))
	keyRoot := h.Root(key)
	put(t, h, m, fix(1), list(t, h, fix(10)))
	put(t, h, m, key, list(t, h, fix(20)))
	put(t, h, m, heap.Nil, list(t, h, fix(30)))
	for range 3 {
		c.Major()
	}
	m, _ = h.At(root)
	key, _ = h.At(keyRoot)
	for k, want := range map[heap.Word]heap.Word{fix(1): fix(10), key: fix(20), heap.Nil: fix(30)} {
		w, ok, _ := table.Get(h, m, k)
		if x, _ := h.Get(w, 0); x != want || !ok {
			t.Errorf("Get of %d = %d, %v; expected a list of %d", k, x, ok, want)
		}
	}
}
