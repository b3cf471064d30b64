package heap_test

import (
	"math/rand"
	"slices"
	"testing"

	"commonform/api"
	"commonform/heap"
)

func TestKeep(t *testing.T) {
	h := mustHeap(t, 100, 10)
	a := cons(t, h, 8, heap.Nil)
	b := cons(t, h, a, a)
	s := raw(t, h, heap.KindString, "twelve bytes")
	is(t, "Set", h.Set(a, 1, b), api.OK)
	is(t, "Set", h.Set(heap.Nil, 0, s), api.OK)
	r, gone := h.Root(b), h.Root(s)
	is(t, "Keep", h.Keep([]heap.Word{b}, []heap.Word{a}), api.OK)
	if h.Used() != 12 || h.Old() != 9 || h.Moves() != 1 || !slices.Equal(h.Objects(), []heap.Word{3, ref(6), ref(9)}) || !slices.Equal(h.Remembered(), []heap.Word{ref(6)}) {
		t.Errorf("Used %d, Old %d, Objects %v, Remembered %v", h.Used(), h.Old(), h.Objects(), h.Remembered())
	}
	w, _ := h.At(r)
	x, _ := h.At(gone)
	first, _ := h.Get(heap.Nil, 0)
	if w != ref(6) || x != heap.Unbound || first != heap.Unbound {
		t.Errorf("the roots are %d and %d, the field of NIL %d", w, x, first)
	}
	for i, want := range []heap.Word{ref(9), ref(9)} {
		if x, _ := h.Get(ref(6), i); x != want {
			t.Errorf("the field %d is %d", i, x)
		}
	}
	for i, want := range []heap.Word{8, ref(6)} {
		if x, _ := h.Get(ref(9), i); x != want {
			t.Errorf("the field %d is %d", i, x)
		}
	}
}

func TestKeepErrors(t *testing.T) {
	h := mustHeap(t, 100, 10)
	a := cons(t, h, 8, heap.Nil)
	b := cons(t, h, a, a)
	h.Root(b)
	bad := heap.Word(7)
	type words = []heap.Word
	for _, c := range []struct {
		old, young words
		want       api.Errno
	}{
		{words{a, bad}, nil, heap.ErrWord}, {nil, words{ref(7)}, heap.ErrWord}, {words{8}, words{a}, heap.ErrWord}, {nil, words{a, heap.Unbound}, heap.ErrWord}, {words{ref(12)}, nil, heap.ErrWord}, {words{777}, nil, heap.ErrWord},
		{words{a, a}, nil, api.ErrTwice}, {nil, words{b, a, b}, api.ErrTwice}, {words{a}, words{b, a}, api.ErrTwice}, {words{heap.Nil}, nil, api.ErrTwice}, {words{a}, words{heap.Nil}, api.ErrTwice},
		{words{bad}, words{a, a}, heap.ErrWord}, {words{a, bad, a}, nil, heap.ErrWord}, {words{bad, heap.Nil}, nil, heap.ErrWord}, {words{a}, words{bad, a}, heap.ErrWord},
		{words{a, a, bad}, nil, api.ErrTwice}, {words{heap.Nil}, words{bad}, api.ErrTwice},
	} {
		before := dumpOf(h)
		if e := h.Keep(c.old, c.young); e != c.want || !dumpOf(h).is(before) {
			t.Errorf("Keep(%v, %v): %v; expected %v", c.old, c.young, e, c.want)
		}
	}
	if h.Moves() != 0 {
		t.Error("Moves counts errors")
	}
}

// P15.4: Keep of all that is met from the roots changes no Cells of them, in whatever order and spaces.
func TestKeepOfAllThatIsMet(t *testing.T) {
	for seed := range int64(300) {
		r := rand.New(rand.NewSource(seed))
		h := mustHeap(t, 2000, 100)
		fill(r, h, 5+r.Intn(60))
		var roots []int
		for range 1 + r.Intn(5) {
			if n := h.Root(anyWord(r, h)); n >= 0 {
				roots = append(roots, n)
			}
		}
		words := func() []heap.Word {
			var l []heap.Word
			for _, n := range roots {
				w, _ := h.At(n)
				l = append(l, w)
			}
			return l
		}
		cells, fields, _ := h.Cells(words())
		for range 3 {
			l := met(h, words())
			r.Shuffle(len(l), func(i, j int) { l[i], l[j] = l[j], l[i] })
			at := r.Intn(len(l) + 1)
			is(t, "Keep", h.Keep(l[:at], l[at:]), api.OK)
			again, those, e := h.Cells(words())
			if !same(again, cells) || !slices.Equal(those, fields) || e != api.OK {
				t.Fatalf("seed %d: Keep changes Cells", seed)
			}
		}
	}
}

// met returns the references to all objects that are met from some words, but for the first one.
func met(h *heap.Heap, words []heap.Word) []heap.Word {
	var l []heap.Word
	for i := 0; i < len(words); i++ {
		w := words[i]
		if h.Place(w) <= 0 || slices.Contains(l, w) {
			continue
		}
		l = append(l, w)
		for k := range h.Len(w) {
			if x, e := h.Get(w, k); e == api.OK {
				words = append(slices.Clone(words), x)
			}
		}
	}
	return l
}

// fill makes so many objects with any fields.
func fill(r *rand.Rand, h *heap.Heap, objects int) {
	for range objects {
		if r.Intn(4) == 0 {
			h.Raw(1+r.Intn(31), string(make([]byte, r.Intn(20))))
			continue
		}
		h.New(1+r.Intn(31), r.Intn(5))
	}
	for range 3 * objects {
		h.Set(anyWord(r, h), r.Intn(5), anyWord(r, h))
	}
}
