package heap_test

import (
	"math/rand"
	"reflect"
	"slices"
	"testing"

	"commonform/api"
	"commonform/heap"
)

// is holds an error against the one that is wanted.
func is(t *testing.T, what string, got, want api.Errno) {
	t.Helper()
	if got != want {
		t.Errorf("%s: error %v; expected %v", what, got, want)
	}
}

func mustHeap(t *testing.T, limit, young int) *heap.Heap {
	t.Helper()
	h, e := heap.New(limit, young)
	if e != api.OK {
		t.Fatalf("New(%d, %d): %v", limit, young, e)
	}
	return h
}

func fix(n int64) heap.Word {
	w, _ := heap.Fix(n)
	return w
}

func char(c rune) heap.Word {
	w, _ := heap.Char(c)
	return w
}

// ref is a word with the tag of references.
func ref(place int) heap.Word { return heap.Word(place)<<3 | 3 }

// imm is the Field of an immediate word, obj that of an object.
func imm(w heap.Word) heap.Field { return heap.Field{Word: w, Object: -1} }
func obj(i int) heap.Field       { return heap.Field{Object: i} }

func cons(t *testing.T, h *heap.Heap, a, d heap.Word) heap.Word {
	t.Helper()
	c := made(t, h, heap.KindCons, a, d)
	return c
}

// made returns a new object with these fields.
func made(t *testing.T, h *heap.Heap, kind int, fields ...heap.Word) heap.Word {
	t.Helper()
	w, e := h.New(kind, len(fields))
	if e != api.OK {
		t.Fatalf("New(%d, %d): %v", kind, len(fields), e)
	}
	for i, x := range fields {
		if e := h.Set(w, i, x); e != api.OK {
			t.Fatalf("Set(%d, %d, %d): %v", w, i, x, e)
		}
	}
	return w
}

func raw(t *testing.T, h *heap.Heap, kind int, bytes string) heap.Word {
	t.Helper()
	w, e := h.Raw(kind, bytes)
	if e != api.OK {
		t.Fatalf("Raw(%d, %d bytes): %v", kind, len(bytes), e)
	}
	return w
}

// same reports whether two lists of cells have the same elements, be they nil or empty.
func same(a, b []heap.Cell) bool {
	return slices.EqualFunc(a, b, func(x, y heap.Cell) bool {
		return x.Kind == y.Kind && x.Raw == y.Raw && x.Bytes == y.Bytes && slices.Equal(x.Fields, y.Fields)
	})
}

// copied returns cells that share no memory with others.
func copied(l []heap.Cell) []heap.Cell {
	l = slices.Clone(l)
	for i := range l {
		l[i].Fields = slices.Clone(l[i].Fields)
	}
	return l
}

// dump is all that calls tell of a heap.
type dump struct {
	Used, Limit, Old, Moves int
	Full                    bool
	Objects, Remembered     []heap.Word
	Kinds, Lens, Places     []int
	Fields                  [][]heap.Word
	Bytes                   []string
	Roots                   []int
	Words                   []heap.Word
}

func dumpOf(h *heap.Heap) dump {
	d := dump{Used: h.Used(), Limit: h.Limit(), Old: h.Old(), Moves: h.Moves(), Full: h.Full(), Objects: h.Objects(), Remembered: h.Remembered(), Roots: h.Roots()}
	for _, w := range d.Objects {
		d.Kinds = append(d.Kinds, h.Kind(w))
		d.Lens = append(d.Lens, h.Len(w))
		d.Places = append(d.Places, h.Place(w))
		bytes, e := h.Bytes(w)
		d.Bytes = append(d.Bytes, bytes)
		var fields []heap.Word
		for i := 0; e != api.OK && i < h.Len(w); i++ {
			x, _ := h.Get(w, i)
			fields = append(fields, x)
		}
		d.Fields = append(d.Fields, fields)
	}
	for _, r := range d.Roots {
		w, _ := h.At(r)
		d.Words = append(d.Words, w)
	}
	return d
}

func (d dump) is(other dump) bool { return reflect.DeepEqual(d, other) }

// someBad are words that no heap has.
func someBad() []heap.Word {
	return []heap.Word{1<<64 - 1, 4, 5, 6, 7, 10, 18, 55296<<3 | 1, 57343<<3 | 1, 1114112<<3 | 1, 1<<63 | 97<<3 | 1, 1<<35 | 97<<3 | 1, 1<<63 | 2, 44, 1<<63 | 7}
}

// anyWord is a word: of the objects mostly, and sometimes a bad one.
func anyWord(r *rand.Rand, h *heap.Heap) heap.Word {
	switch n := r.Intn(20); {
	case n < 4:
		return fix(int64(r.Intn(9) - 4))
	case n < 5:
		return fix(r.Int63()>>3*2 - 1<<60)
	case n < 6:
		return char(rune(r.Intn(300)))
	case n < 7:
		return heap.Unbound
	case n < 8:
		return someBad()[r.Intn(len(someBad()))]
	case n < 9:
		return ref(r.Intn(h.Used() + 3))
	}
	l := h.Objects()
	return l[r.Intn(len(l))]
}
