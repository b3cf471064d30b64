package heap_test

import (
	"math"
	"math/rand"
	"slices"
	"strings"
	"testing"

	"commonform/api"
	"commonform/heap"
)

// The cells stand in the order in which they are met: what is met from a field comes ahead of the next field.
func TestOrderOfCells(t *testing.T) {
	h := mustHeap(t, 200, 10)
	s := raw(t, h, heap.KindString, "s")
	deep := cons(t, h, s, heap.Nil)
	left := cons(t, h, deep, char('x'))
	right := cons(t, h, heap.Unbound, left)
	top := made(t, h, heap.KindVector, right, s, fix(-1), deep)
	is(t, "Set", h.Set(deep, 1, top), api.OK)
	cells, fields, e := h.Cells([]heap.Word{8, s, top, heap.Nil, s, heap.Unbound, right})
	want := []heap.Cell{
		{Kind: heap.KindString, Raw: true, Bytes: "s"},
		{Kind: heap.KindVector, Fields: []heap.Field{obj(2), obj(0), imm(fix(-1)), obj(4)}},
		{Kind: heap.KindCons, Fields: []heap.Field{imm(heap.Unbound), obj(3)}},
		{Kind: heap.KindCons, Fields: []heap.Field{obj(4), imm(char('x'))}},
		{Kind: heap.KindCons, Fields: []heap.Field{obj(0), obj(1)}},
	}
	if e != api.OK || !same(cells, want) || !slices.Equal(fields, []heap.Field{imm(8), obj(0), obj(1), obj(-2), obj(0), imm(heap.Unbound), obj(2)}) {
		t.Errorf("Cells = %v, %v, %v", cells, fields, e)
	}
	if cells, fields, e := h.Cells(nil); len(cells)+len(fields) != 0 || e != api.OK {
		t.Errorf("Cells of nothing = %v, %v, %v", cells, fields, e)
	}
}

// The first object has no cell, so nothing is met from its fields: Lay makes no other one.
func TestFirstObjectHasNoCell(t *testing.T) {
	h := mustHeap(t, 100, 10)
	c := cons(t, h, heap.Nil, 8)
	is(t, "Set", h.Set(heap.Nil, 0, c), api.OK)
	cells, fields, e := h.Cells([]heap.Word{heap.Nil})
	if len(cells) != 0 || !slices.Equal(fields, []heap.Field{obj(-2)}) || e != api.OK {
		t.Errorf("Cells = %v, %v, %v", cells, fields, e)
	}
	cells, fields, _ = h.Cells([]heap.Word{c})
	words, _ := h.Lay(cells, fields)
	if again, _, _ := h.Cells(words); !same(again, cells) || !same(cells, []heap.Cell{{Kind: heap.KindCons, Fields: []heap.Field{obj(-2), imm(8)}}}) {
		t.Errorf("Cells = %v, and of Lay %v", cells, again)
	}
}

func TestCellsErrors(t *testing.T) {
	h := mustHeap(t, 100, 10)
	c := cons(t, h, 8, 16)
	for _, w := range append(someBad(), ref(7), ref(9), ref(1<<50)) {
		if cells, fields, e := h.Cells([]heap.Word{c, 8, w}); e != heap.ErrWord || cells != nil || fields != nil {
			t.Errorf("Cells of %d = %v, %v, %v", w, cells, fields, e)
		}
	}
}

func TestLay(t *testing.T) {
	h := mustHeap(t, 100, 10)
	is(t, "Keep", h.Keep([]heap.Word{cons(t, h, 8, 16)}, nil), api.OK)
	words, e := h.Lay([]heap.Cell{
		{Kind: heap.KindCons, Fields: []heap.Field{obj(2), obj(-2)}},
		{Kind: heap.KindVector},
		{Kind: 31, Raw: true, Bytes: "nine byte"},
	}, []heap.Field{obj(1), imm(40), obj(-2), obj(0), obj(0)})
	if e != api.OK || !slices.Equal(words, []heap.Word{ref(12), 40, heap.Nil, ref(9), ref(9)}) || h.Old() != 9 || h.Used() != 16 {
		t.Errorf("Lay = %v, %v; Old %d, Used %d", words, e, h.Old(), h.Used())
	}
	x, _ := h.Get(ref(9), 0)
	y, _ := h.Get(ref(9), 1)
	text, _ := h.Bytes(x)
	if x != ref(13) || y != heap.Nil || text != "nine byte" || h.Kind(x) != 31 {
		t.Errorf("the fields %d, %d; the bytes %q", x, y, text)
	}
	if words, e := h.Lay(nil, nil); len(words) != 0 || e != api.OK {
		t.Errorf("Lay of nothing = %v, %v", words, e)
	}
}

func TestLayErrors(t *testing.T) {
	long := strings.Repeat("x", 131073)
	many := make([]heap.Field, 16385)
	for i := range many {
		many[i] = imm(8)
	}
	good := heap.Cell{Kind: heap.KindCons, Fields: []heap.Field{imm(8), obj(-2)}}
	fields := func(l ...heap.Field) heap.Cell { return heap.Cell{Kind: heap.KindVector, Fields: l} }
	for i, c := range []struct {
		cells []heap.Cell
		words []heap.Field
		want  api.Errno
	}{
		{[]heap.Cell{{}}, nil, api.ErrArg}, {[]heap.Cell{{Kind: 32}}, nil, api.ErrArg}, {[]heap.Cell{{Kind: -1, Raw: true}}, nil, api.ErrArg}, {[]heap.Cell{{Kind: 1, Fields: many}}, nil, api.ErrArg}, {[]heap.Cell{{Kind: 1, Raw: true, Bytes: long}}, nil, api.ErrArg}, {[]heap.Cell{{Kind: 1, Raw: true, Bytes: long, Fields: many[:1]}}, nil, api.ErrArg}, {[]heap.Cell{{Kind: 1, Bytes: "x", Fields: many}}, nil, api.ErrArg}, {[]heap.Cell{{Kind: 32, Bytes: "x"}}, nil, api.ErrArg},
		{[]heap.Cell{{Kind: 1, Raw: true, Fields: many[:1]}}, nil, heap.ErrRaw}, {[]heap.Cell{{Kind: 1, Raw: true, Fields: many}}, nil, heap.ErrRaw}, {[]heap.Cell{{Kind: 1, Bytes: long}}, nil, heap.ErrRaw}, {[]heap.Cell{{Kind: 1, Bytes: "x", Fields: []heap.Field{imm(7)}}}, nil, heap.ErrRaw},
		{[]heap.Cell{fields(imm(7))}, nil, heap.ErrWord}, {[]heap.Cell{fields(imm(heap.Nil))}, nil, heap.ErrWord}, {[]heap.Cell{fields(imm(10))}, nil, heap.ErrWord}, {[]heap.Cell{fields(imm(55296<<3 | 1))}, nil, heap.ErrWord}, {[]heap.Cell{fields(obj(1))}, nil, heap.ErrWord}, {[]heap.Cell{fields(obj(-3))}, nil, heap.ErrWord}, {[]heap.Cell{fields(obj(math.MaxInt))}, nil, heap.ErrWord}, {[]heap.Cell{fields(obj(math.MinInt))}, nil, heap.ErrWord}, {[]heap.Cell{fields(heap.Field{Word: 8, Object: 0})}, nil, heap.ErrWord}, {[]heap.Cell{fields(heap.Field{Word: 8, Object: -2})}, nil, heap.ErrWord}, {[]heap.Cell{fields(heap.Field{Word: 3, Object: -2})}, nil, heap.ErrWord}, {[]heap.Cell{fields(imm(8), imm(heap.Unbound), imm(7))}, nil, heap.ErrWord},
		{[]heap.Cell{good}, []heap.Field{imm(8), imm(7)}, heap.ErrWord}, {[]heap.Cell{good}, []heap.Field{obj(1)}, heap.ErrWord}, {nil, []heap.Field{obj(0)}, heap.ErrWord}, {nil, []heap.Field{{Word: 8, Object: -2}}, heap.ErrWord},
		{[]heap.Cell{fields(imm(7)), {}}, nil, heap.ErrWord}, {[]heap.Cell{{}, fields(imm(7))}, nil, api.ErrArg}, {[]heap.Cell{{Kind: 1, Bytes: "x"}, {}}, nil, heap.ErrRaw}, {[]heap.Cell{good, {Kind: 40}}, []heap.Field{imm(7)}, api.ErrArg},
		{[]heap.Cell{fields(many[:60]...)}, []heap.Field{imm(7)}, heap.ErrWord}, {[]heap.Cell{fields(many[:60]...)}, nil, api.ErrWords}, {[]heap.Cell{fields(many[:20]...), fields(many[:35]...)}, nil, api.ErrWords}, {[]heap.Cell{fields(many[:20]...), fields(many[:34]...)}, nil, api.OK}, {[]heap.Cell{{Kind: 1, Raw: true, Bytes: long[:441]}}, nil, api.ErrWords}, {[]heap.Cell{{Kind: 1, Raw: true, Bytes: long[:440]}}, nil, api.OK},
		{make([]heap.Cell, 20001), nil, api.ErrArg}, {slices.Repeat([]heap.Cell{good}, 20001), nil, api.ErrArg}, {slices.Repeat([]heap.Cell{good}, 20000), nil, api.ErrWords}, {slices.Repeat([]heap.Cell{fields(many[:16384]...)}, 20000), nil, api.ErrWords},
	} {
		h := mustHeap(t, 64, 10)
		made(t, h, heap.KindBox, 8)
		before := dumpOf(h)
		words, e := h.Lay(c.cells, c.words)
		if e != c.want || e != api.OK && (words != nil || !dumpOf(h).is(before)) {
			t.Errorf("%d: Lay: %v; expected %v", i, e, c.want)
		}
	}
	h := mustHeap(t, 65536, 10)
	if _, e := h.Lay(slices.Repeat([]heap.Cell{{Kind: 31}}, 20000), nil); e != api.OK || h.Used() != 20006 {
		t.Errorf("Lay of 20000 cells: %v", e)
	}
}

// Lists as long, and objects as deep, as a heap can have them.
func TestDeepGraphs(t *testing.T) {
	for _, first := range []bool{false, true} {
		h := mustHeap(t, 65536, 10)
		top := heap.Nil
		for range (65536 - 6) / 3 {
			if first {
				top = cons(t, h, top, 8)
			} else {
				top = cons(t, h, 8, top)
			}
		}
		cells, _, e := h.Cells([]heap.Word{top})
		if len(cells) != 21843 || e != api.OK {
			t.Errorf("Cells: %d, %v", len(cells), e)
		}
		if _, e := h.Lay(cells, nil); e != api.ErrArg {
			t.Errorf("Lay: %v", e)
		}
	}
	h := mustHeap(t, 65536, 10)
	top := heap.Nil
	for range (65536 - 6) / 2 {
		top = made(t, h, heap.KindBox, top)
	}
	is(t, "Set", h.Set(ref(6), 0, top), api.OK)
	if cells, _, e := h.Cells([]heap.Word{top}); len(cells) != 32765 || e != api.OK || cells[32764].Fields[0] != obj(0) {
		t.Errorf("Cells: %d, %v", len(cells), e)
	}
}

// P15.4: Lay of Cells makes another graph with the same Cells; in any heap.
func TestLayOfCells(t *testing.T) {
	for seed := range int64(300) {
		r := rand.New(rand.NewSource(seed))
		h := mustHeap(t, 3000, 100)
		fill(r, h, 1+r.Intn(60))
		var words []heap.Word
		for range r.Intn(6) {
			if w := anyWord(r, h); h.Root(w) >= 0 {
				words = append(words, w)
			}
		}
		cells, fields, e := h.Cells(words)
		is(t, "Cells", e, api.OK)
		kept := copied(cells)
		for _, to := range []*heap.Heap{h, mustHeap(t, 3000, 1)} {
			had := to.Objects()
			laid, e := to.Lay(cells, fields)
			again, those, e2 := to.Cells(laid)
			if e != api.OK || e2 != api.OK || !same(again, cells) || !slices.Equal(those, fields) || len(to.Objects()) != len(had)+len(cells) {
				t.Fatalf("seed %d: Cells of Lay are others: %v, %v", seed, e, e2)
			}
			for i, w := range laid {
				if fields[i].Object >= 0 && slices.Contains(had, w) {
					t.Fatalf("seed %d: Lay made no new object", seed)
				}
			}
		}
		for i := range cells { // what was handed out and in is no part of the heap
			clear(cells[i].Fields)
		}
		if again, _, _ := h.Cells(words); !same(again, kept) {
			t.Fatalf("seed %d: Cells share memory with the heap", seed)
		}
	}
}
