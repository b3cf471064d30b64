package heap_test

import (
	"math"
	"slices"
	"strings"
	"testing"

	"commonform/api"
	"commonform/heap"
)

func TestExamples(t *testing.T) {
	h := mustHeap(t, 64, 1)
	if h.Used() != 6 || h.Old() != 6 || !slices.Equal(h.Objects(), []heap.Word{3}) || h.Limit() != 64 || h.Full() {
		t.Errorf("a new heap: Used %d, Old %d, Objects %v", h.Used(), h.Old(), h.Objects())
	}
	c, e := h.New(heap.KindCons, 2)
	if c != 51 || e != api.OK || h.Used() != 9 || h.Place(c) != 6 || !h.Full() {
		t.Errorf("New = %d, %v; Used %d, Full %v", c, e, h.Used(), h.Full())
	}
	is(t, "Set", h.Set(c, 0, fix(5)), api.OK)
	is(t, "Set", h.Set(c, 1, c), api.OK)
	cells, fields, e := h.Cells([]heap.Word{c})
	if !same(cells, []heap.Cell{{Kind: heap.KindCons, Fields: []heap.Field{imm(40), obj(0)}}}) || !slices.Equal(fields, []heap.Field{obj(0)}) || e != api.OK {
		t.Errorf("Cells = %v, %v, %v", cells, fields, e)
	}
	if s := raw(t, h, heap.KindString, "abc"); h.Used() != 11 || s != ref(9) {
		t.Errorf("Raw = %d, Used %d", s, h.Used())
	}
}

// The first object is a symbol with 5 fields, and always old.
func TestFirstObject(t *testing.T) {
	h := mustHeap(t, 100, 100)
	if h.Kind(heap.Nil) != heap.KindSymbol || h.Len(heap.Nil) != 5 || h.Place(heap.Nil) != 0 {
		t.Error("the first object")
	}
	for i := range 5 {
		if x, e := h.Get(heap.Nil, i); x != heap.Nil || e != api.OK {
			t.Errorf("its field %d = %d, %v", i, x, e)
		}
	}
	c := cons(t, h, 8, 16)
	is(t, "Set", h.Set(heap.Nil, 2, c), api.OK)
	if !slices.Equal(h.Remembered(), []heap.Word{heap.Nil}) {
		t.Error("the first object is not remembered")
	}
	is(t, "Keep", h.Keep(nil, nil), api.OK)
	if x, _ := h.Get(heap.Nil, 2); x != heap.Unbound || h.Used() != 6 || h.Old() != 6 {
		t.Errorf("behind Keep its field is %d", x)
	}
}

func TestLimits(t *testing.T) {
	for _, c := range []struct {
		limit, young int
		want         api.Errno
	}{{64, 1, api.OK}, {64, 64, api.OK}, {65536, 65536, api.OK}, {65536, 1, api.OK}, {63, 1, api.ErrArg}, {65537, 1, api.ErrArg}, {64, 0, api.ErrArg}, {64, 65, api.ErrArg}, {64, -1, api.ErrArg}, {-1, -1, api.ErrArg}, {0, 0, api.ErrArg}, {math.MaxInt, 5, api.ErrArg}, {math.MinInt, math.MinInt, api.ErrArg}} {
		h, e := heap.New(c.limit, c.young)
		if e != c.want || (h == nil) != (e != api.OK) {
			t.Errorf("New(%d, %d) = %v, %v; expected %v", c.limit, c.young, h, e, c.want)
		}
		if e == api.OK && (h.Limit() != c.limit || h.Used() != 6) {
			t.Errorf("New(%d, %d): Limit %d, Used %d", c.limit, c.young, h.Limit(), h.Used())
		}
	}
}

func TestMaking(t *testing.T) {
	long := strings.Repeat("x", 131072)
	for _, c := range []struct {
		limit, kind, fields int
		want                api.Errno
	}{
		{64, 1, 0, api.OK}, {64, 31, 0, api.OK}, {64, 10, 57, api.OK}, {64, 10, 58, api.ErrWords}, {65536, 11, 16384, api.OK}, {65536, 11, 16385, api.ErrArg},
		{64, 0, 0, api.ErrArg}, {64, 32, 0, api.ErrArg}, {64, -1, 99, api.ErrArg}, {64, 1, -1, api.ErrArg}, {64, 32, 99, api.ErrArg}, {64, 1, 16384, api.ErrWords}, {64, 1, 16385, api.ErrArg}, {64, math.MaxInt, 1, api.ErrArg}, {64, 1, math.MaxInt, api.ErrArg}, {64, 1, math.MinInt, api.ErrArg},
	} {
		h := mustHeap(t, c.limit, 1)
		w, e := h.New(c.kind, c.fields)
		if e != c.want || e != api.OK && (w != 0 || h.Used() != 6) || e == api.OK && (w != ref(6) || h.Used() != 7+c.fields || h.Kind(w) != c.kind || h.Len(w) != c.fields) {
			t.Errorf("New(%d, %d) = %d, %v; expected %v", c.kind, c.fields, w, e, c.want)
		}
		if x, _ := h.Get(w, c.fields-1); e == api.OK && c.fields > 0 && x != heap.Nil {
			t.Errorf("a new field is %d", x)
		}
	}
	for _, c := range []struct {
		limit, kind int
		bytes       string
		want        api.Errno
	}{
		{64, 1, "", api.OK}, {64, 31, "a", api.OK}, {64, 8, long[:456], api.OK}, {64, 8, long[:457], api.ErrWords}, {65536, 8, long, api.OK}, {65536, 8, long + "x", api.ErrArg}, {64, 8, long, api.ErrWords}, {64, 8, long + "x", api.ErrArg},
		{64, 0, "", api.ErrArg}, {64, 32, "", api.ErrArg}, {64, -1, long, api.ErrArg}, {64, 8, "\x00\xff\x80abc\x00\x00\x00\xff", api.OK},
	} {
		h := mustHeap(t, c.limit, 1)
		w, e := h.Raw(c.kind, c.bytes)
		bytes, _ := h.Bytes(w)
		if e != c.want || e != api.OK && (w != 0 || h.Used() != 6) || e == api.OK && (w != ref(6) || h.Used() != 7+(len(c.bytes)+7)/8 || h.Kind(w) != c.kind || h.Len(w) != len(c.bytes) || bytes != c.bytes) {
			t.Errorf("Raw(%d, %d bytes) = %d, %v; expected %v", c.kind, len(c.bytes), w, e, c.want)
		}
	}
}

// A heap may be filled up to its limit, by just as many words.
func TestLastWord(t *testing.T) {
	h := mustHeap(t, 64, 64)
	var l []heap.Word
	for h.Used() < 64 {
		l = append(l, raw(t, h, heap.KindString, ""))
	}
	if h.Place(ref(63)) != 63 || h.Place(ref(64)) != -1 || h.Kind(ref(64)) != 0 {
		t.Error("the last place")
	}
	before := dumpOf(h)
	for _, e := range []api.Errno{second(h.New(1, 0)), second(h.Raw(1, "")), second(h.Lay([]heap.Cell{{Kind: 1}}, nil))} {
		is(t, "one word more", e, api.ErrWords)
	}
	if !dumpOf(h).is(before) {
		t.Error("an error changed something")
	}
	is(t, "Keep", h.Keep(nil, l[1:]), api.OK)
	if _, e := h.New(1, 0); e != api.OK || h.Used() != 64 {
		t.Errorf("behind Keep: %v, Used %d", e, h.Used())
	}
}

func second[T any](_ T, e api.Errno) api.Errno { return e }

func TestNil(t *testing.T) {
	var h *heap.Heap
	bad := heap.Word(7)
	_, e1 := h.New(99, -1)
	_, e2 := h.Raw(99, "")
	_, e3 := h.Get(bad, 0)
	_, e4 := h.Bytes(bad)
	_, e5 := h.At(0)
	_, _, e6 := h.Cells([]heap.Word{bad})
	_, e7 := h.Lay(nil, nil)
	for i, e := range []api.Errno{e1, e2, e3, e4, e5, e6, e7, h.Set(bad, 0, bad), h.Put(-1, bad), h.Drop(-1), h.Keep(nil, []heap.Word{bad})} {
		if e != api.ErrArg {
			t.Errorf("%d: %v; expected ErrArg", i, e)
		}
	}
	if h.Place(heap.Nil) != -1 || h.Root(8) != -1 || h.Kind(heap.Nil)+h.Len(heap.Nil)+h.Used()+h.Limit()+h.Old()+h.Moves() != 0 || h.Full() || len(h.Objects())+len(h.Remembered())+len(h.Roots()) != 0 {
		t.Error("a nil heap has something")
	}
}

// A heap that New did not return does no harm.
func TestNoHeap(t *testing.T) {
	h := &heap.Heap{}
	h.New(1, 1)
	h.Raw(1, "")
	h.Get(heap.Nil, 0)
	h.Set(heap.Nil, 0, 0)
	h.Bytes(heap.Nil)
	h.Root(0)
	h.Put(0, 0)
	h.Drop(0)
	h.Cells([]heap.Word{heap.Nil, 0})
	h.Lay([]heap.Cell{{Kind: 1}}, []heap.Field{obj(-2)})
	h.Keep([]heap.Word{heap.Nil}, nil)
	dumpOf(h)
}

func TestFieldErrors(t *testing.T) {
	h := mustHeap(t, 100, 10)
	c := cons(t, h, 8, 16)
	s := raw(t, h, heap.KindString, "abc")
	none := made(t, h, heap.KindVector)
	noBytes := raw(t, h, heap.KindString, "")
	for _, c := range []struct {
		w         heap.Word
		i         int
		x         heap.Word
		get, want api.Errno
		bytes     api.Errno
	}{
		{c, 0, 8, api.OK, api.OK, heap.ErrRaw}, {c, 1, c, api.OK, api.OK, heap.ErrRaw}, {c, 1, heap.Unbound, api.OK, api.OK, heap.ErrRaw}, {c, 1, s, api.OK, api.OK, heap.ErrRaw}, {c, 1, char('x'), api.OK, api.OK, heap.ErrRaw},
		{c, 2, 8, api.ErrRange, api.ErrRange, heap.ErrRaw}, {c, -1, 7, api.ErrRange, api.ErrRange, heap.ErrRaw}, {c, math.MaxInt, 7, api.ErrRange, api.ErrRange, heap.ErrRaw}, {c, math.MinInt, 7, api.ErrRange, api.ErrRange, heap.ErrRaw},
		{c, 0, 7, api.OK, heap.ErrWord, heap.ErrRaw}, {c, 0, ref(7), api.OK, heap.ErrWord, heap.ErrRaw}, {c, 0, ref(1 << 40), api.OK, heap.ErrWord, heap.ErrRaw}, {c, 0, 10, api.OK, heap.ErrWord, heap.ErrRaw}, {c, 0, 55296<<3 | 1, api.OK, heap.ErrWord, heap.ErrRaw},
		{s, 0, 8, heap.ErrRaw, heap.ErrRaw, api.OK}, {s, 9, 7, heap.ErrRaw, heap.ErrRaw, api.OK}, {noBytes, 0, 7, heap.ErrRaw, heap.ErrRaw, api.OK}, {none, 0, 7, api.ErrRange, api.ErrRange, heap.ErrRaw},
		{ref(7), 0, 8, heap.ErrWord, heap.ErrWord, heap.ErrWord}, {8, -1, 7, heap.ErrWord, heap.ErrWord, heap.ErrWord}, {heap.Unbound, 0, 8, heap.ErrWord, heap.ErrWord, heap.ErrWord}, {ref(h.Used()), 0, 8, heap.ErrWord, heap.ErrWord, heap.ErrWord}, {ref(10), 0, 8, heap.ErrWord, heap.ErrWord, heap.ErrWord}, {1<<64 - 1, 0, 8, heap.ErrWord, heap.ErrWord, heap.ErrWord}, {1<<64 - 5, 0, 8, heap.ErrWord, heap.ErrWord, heap.ErrWord},
	} {
		before := dumpOf(h)
		if x, e := h.Get(c.w, c.i); e != c.get || e != api.OK && x != 0 {
			t.Errorf("Get(%d, %d) = %d, %v; expected %v", c.w, c.i, x, e, c.get)
		}
		if text, e := h.Bytes(c.w); e != c.bytes || e != api.OK && text != "" {
			t.Errorf("Bytes(%d) = %q, %v; expected %v", c.w, text, e, c.bytes)
		}
		e := h.Set(c.w, c.i, c.x)
		if e != c.want || e != api.OK && !dumpOf(h).is(before) {
			t.Errorf("Set(%d, %d, %d): %v; expected %v", c.w, c.i, c.x, e, c.want)
		}
		if x, _ := h.Get(c.w, c.i); e == api.OK && x != c.x {
			t.Errorf("Get behind Set = %d; expected %d", x, c.x)
		}
	}
	for _, w := range append(someBad(), 0, 8, 777, heap.Unbound, ref(1), ref(h.Used())) {
		if h.Kind(w) != 0 || h.Len(w) != 0 || h.Place(w) != -1 {
			t.Errorf("%d is an object", w)
		}
	}
}

// The bytes of an object may look like a header, or like a reference, and are none.
func TestBytesAreNoWords(t *testing.T) {
	h := mustHeap(t, 200, 10)
	c := cons(t, h, 8, 16)
	text := strings.Repeat("\x33\x00\x00\x00\x00\x00\x00\x00\x0a\x00\x00\x00\x00\x00\x00\x00\x03\x00\x00\x00\x00\x00\x00\x00", 3) // references to the places 6, 1, 0
	s := raw(t, h, heap.KindString, text)
	is(t, "Keep", h.Keep([]heap.Word{s}, []heap.Word{c}), api.OK)
	if got, _ := h.Bytes(ref(6)); got != text || h.Place(ref(7)) != -1 || len(h.Remembered()) != 0 {
		t.Errorf("Bytes = %q", got)
	}
	cells, _, _ := h.Cells([]heap.Word{ref(6)})
	if !same(cells, []heap.Cell{{Kind: heap.KindString, Raw: true, Bytes: text}}) {
		t.Errorf("Cells = %v", cells)
	}
}

func TestRoots(t *testing.T) {
	h := mustHeap(t, 100, 10)
	c := cons(t, h, 8, 16)
	for i, w := range []heap.Word{c, 8, heap.Unbound, c, heap.Nil} {
		if r := h.Root(w); r != i {
			t.Errorf("Root = %d; expected %d", r, i)
		}
	}
	for _, w := range append(someBad(), ref(7), ref(99)) {
		if r := h.Root(w); r != -1 {
			t.Errorf("Root(%d) = %d", w, r)
		}
	}
	is(t, "Drop", h.Drop(1), api.OK)
	is(t, "Drop", h.Drop(4), api.OK)
	for _, r := range []int{1, 4, -1, 5, math.MaxInt, math.MinInt} {
		w, e := h.At(r)
		if w != 0 || e != api.ErrNone || h.Put(r, 7) != api.ErrNone || h.Drop(r) != api.ErrNone {
			t.Errorf("At(%d) = %d, %v", r, w, e)
		}
	}
	is(t, "Put", h.Put(2, 7), heap.ErrWord)
	is(t, "Put", h.Put(2, ref(7)), heap.ErrWord)
	is(t, "Put", h.Put(2, 80), api.OK)
	if r := h.Root(24); r != 5 || !slices.Equal(h.Roots(), []int{0, 2, 3, 5}) {
		t.Errorf("Root = %d, Roots = %v", r, h.Roots())
	}
	for i, want := range map[int]heap.Word{0: c, 2: 80, 3: c, 5: 24} {
		if w, e := h.At(i); w != want || e != api.OK {
			t.Errorf("At(%d) = %d, %v", i, w, e)
		}
	}
}
