package table_test

import (
	"math"
	"math/big"
	"math/rand"
	"slices"
	"strconv"
	"strings"
	"testing"

	"commonform/api"
	"commonform/heap"
	"commonform/table"
)

func is(t *testing.T, what string, got, want api.Errno) {
	t.Helper()
	if got != want {
		t.Errorf("%s: error %v; expected %v", what, got, want)
	}
}

func mustHeap(t *testing.T, limit int) *heap.Heap {
	t.Helper()
	h, e := heap.New(limit, limit)
	if e != api.OK {
		t.Fatalf("heap.New(%d): %v", limit, e)
	}
	return h
}

func fix(n int) heap.Word {
	w, _ := heap.Fix(int64(n))
	return w
}

func char(c rune) heap.Word {
	w, _ := heap.Char(c)
	return w
}

// made returns a new object with these fields.
func made(t *testing.T, h *heap.Heap, kind int, fields ...heap.Word) heap.Word {
	t.Helper()
	w, e := h.New(kind, len(fields))
	if e != api.OK {
		t.Fatalf("New(%d, %d): %v", kind, len(fields), e)
	}
	for i, x := range fields {
		is(t, "Set", h.Set(w, i, x), api.OK)
	}
	return w
}

func cons(t *testing.T, h *heap.Heap, a, d heap.Word) heap.Word {
	t.Helper()
	return made(t, h, heap.KindCons, a, d)
}

func list(t *testing.T, h *heap.Heap, l ...heap.Word) heap.Word {
	t.Helper()
	w := heap.Nil
	for _, x := range slices.Backward(l) {
		w = cons(t, h, x, w)
	}
	return w
}

func raw(t *testing.T, h *heap.Heap, kind int, bytes string) heap.Word {
	t.Helper()
	w, e := h.Raw(kind, bytes)
	if e != api.OK {
		t.Fatalf("Raw(%d, %d bytes): %v", kind, len(bytes), e)
	}
	return w
}

func str(t *testing.T, h *heap.Heap, text string) heap.Word {
	t.Helper()
	return raw(t, h, heap.KindString, text)
}

// array returns an object of the kind KindArray.
func array(t *testing.T, h *heap.Heap, dims []heap.Word, elements ...heap.Word) heap.Word {
	t.Helper()
	return made(t, h, heap.KindArray, made(t, h, heap.KindVector, dims...), made(t, h, heap.KindVector, elements...))
}

// fields returns the fields of an object, and whether it has fields.
func fields(h *heap.Heap, w heap.Word) ([]heap.Word, bool) {
	if _, e := h.Bytes(w); e != heap.ErrRaw {
		return nil, false
	}
	var l []heap.Word
	for i := range h.Len(w) {
		x, _ := h.Get(w, i)
		l = append(l, x)
	}
	return l, true
}

func mustTable(t *testing.T, h *heap.Heap, test int, weak bool) heap.Word {
	t.Helper()
	m, e := table.New(h, test, weak)
	if e != api.OK {
		t.Fatalf("New(%d, %v): %v", test, weak, e)
	}
	return m
}

func put(t *testing.T, h *heap.Heap, m, key, value heap.Word) {
	t.Helper()
	if e := table.Put(h, m, key, value); e != api.OK {
		t.Fatalf("Put(%d, %d): %v", key, value, e)
	}
}

// has holds what Keys, Values and Count tell against what is wanted: keys and values in turn.
func has(t *testing.T, h *heap.Heap, m heap.Word, want ...heap.Word) {
	t.Helper()
	keys, e := table.Keys(h, m)
	values, e2 := table.Values(h, m)
	n, e3 := table.Count(h, m)
	if e != api.OK || e2 != api.OK || e3 != api.OK || n != len(keys) || len(keys) != len(values) {
		t.Fatalf("%d keys and %d values, Count %d: %v, %v, %v", len(keys), len(values), n, e, e2, e3)
	}
	var got []heap.Word
	for i, k := range keys {
		got = append(got, k, values[i])
	}
	if !slices.Equal(got, want) {
		t.Fatalf("the table has %v; expected %v", got, want)
	}
}

// same asks for one of the tests.
func same(t *testing.T, h *heap.Heap, test int, a, b heap.Word) bool {
	t.Helper()
	relations := []func(*heap.Heap, heap.Word, heap.Word) (bool, api.Errno){
		func(_ *heap.Heap, a, b heap.Word) (bool, api.Errno) { return a == b, api.OK }, table.Eql, table.Equal, table.Equalp,
	}
	ok, e := relations[test](h, a, b)
	is(t, "a relation", e, api.OK)
	return ok
}

// The relations by their definitions: an object is looked at with its kind alone, and big numbers come from another library.

type number struct {
	kind   int
	texts  string
	re, im *big.Rat
}

// realOf returns a number by its kind and its text.
func realOf(kind int, text string) (number, bool) {
	n := number{kind, text, new(big.Rat), new(big.Rat)}
	ok := false
	switch kind {
	case heap.KindInt:
		var z *big.Int
		if z, ok = new(big.Int).SetString(text, 10); ok {
			n.re.SetInt(z)
			ok = z.String() == text
		}
	case heap.KindRatio:
		if _, ok = n.re.SetString(text); ok {
			ok = n.re.String() == text && !n.re.IsInt()
		}
	case heap.KindSingle:
		bits, err := strconv.ParseUint(text, 16, 32)
		ok = err == nil && len(text) == 8 && strings.ToLower(text) == text && n.re.SetFloat64(float64(math.Float32frombits(uint32(bits)))) != nil
	case heap.KindDouble:
		bits, err := strconv.ParseUint(text, 16, 64)
		ok = err == nil && len(text) == 16 && strings.ToLower(text) == text && n.re.SetFloat64(math.Float64frombits(bits)) != nil
	}
	return n, ok
}

// numberOf returns the number that a word is.
func numberOf(h *heap.Heap, w heap.Word) (number, bool) {
	if n, ok := w.Fixnum(); ok {
		return realOf(heap.KindInt, strconv.FormatInt(n, 10))
	}
	parts, _ := fields(h, w)
	if h.Kind(w) != heap.KindComplex || len(parts) != 2 || h.Kind(parts[0]) == heap.KindComplex || h.Kind(parts[1]) == heap.KindComplex {
		text, e := h.Bytes(w)
		if e != api.OK {
			return number{}, false
		}
		return realOf(h.Kind(w), text)
	}
	a, ok := numberOf(h, parts[0])
	b, also := numberOf(h, parts[1])
	if !ok || !also || a.kind != b.kind && (a.kind > heap.KindRatio || b.kind > heap.KindRatio) || b.kind <= heap.KindRatio && b.re.Sign() == 0 {
		return number{}, false
	}
	return number{heap.KindComplex, strconv.Itoa(a.kind) + a.texts + " " + strconv.Itoa(b.kind) + b.texts, a.re, b.re}, true
}

// byValue reports whether two words agree by value.
func byValue(h *heap.Heap, test int, a, b heap.Word) bool {
	if a == b {
		return true
	}
	x, ok := numberOf(h, a)
	y, also := numberOf(h, b)
	if ok && also && test >= table.EqlTest && x.kind == y.kind && x.texts == y.texts {
		return true
	}
	if ok && also && test == table.EqualpTest && x.re.Cmp(y.re) == 0 && x.im.Cmp(y.im) == 0 {
		return true
	}
	c, ok := a.Character()
	d, also := b.Character()
	if ok && also && test == table.EqualpTest && strings.Map(small, string(c)) == strings.Map(small, string(d)) {
		return true
	}
	s, e := h.Bytes(a)
	u, e2 := h.Bytes(b)
	isText := h.Kind(a) == heap.KindString || h.Kind(a) == heap.KindBits
	return test >= table.EqualTest && isText && h.Kind(a) == h.Kind(b) && e == api.OK && e2 == api.OK && s == u
}

func small(c rune) rune {
	if c >= 'A' && c <= 'Z' {
		return c + 32
	}
	return c
}

// partsOf returns what a test looks at: a sort, dimensions and parts; the sort 0 if there is nothing.
func partsOf(h *heap.Heap, test int, w heap.Word) (int, []heap.Word, []heap.Word) {
	l, hasFields := fields(h, w)
	text, e := h.Bytes(w)
	kind := h.Kind(w)
	if kind == heap.KindCons && test >= table.EqualTest && len(l) == 2 {
		return 1, nil, l
	}
	if test != table.EqualpTest {
		return 0, nil, nil
	}
	switch {
	case kind == heap.KindVector && hasFields:
	case kind == heap.KindString && e == api.OK:
		for _, c := range []rune(text) {
			l = append(l, char(c))
		}
	case kind == heap.KindBits && e == api.OK:
		for i := range len(text) {
			l = append(l, fix(strings.Count(text[i:i+1], "1")))
		}
	case kind == heap.KindArray && len(l) == 2 && h.Kind(l[0]) == heap.KindVector && h.Kind(l[1]) == heap.KindVector:
		dims, ok := fields(h, l[0])
		elements, also := fields(h, l[1])
		if !ok || !also {
			return 0, nil, nil
		}
		return 2, dims, elements
	default:
		return 0, nil, nil
	}
	return 2, []heap.Word{fix(len(l))}, l
}

// greatest returns which words are the same by a test: all that agree, less those that do not with what is left, again and again.
func greatest(h *heap.Heap, test int, words []heap.Word) map[[2]heap.Word]bool {
	r := map[[2]heap.Word]bool{}
	for _, a := range words {
		for _, b := range words {
			r[[2]heap.Word{a, b}] = true
		}
	}
	stays := func(a, b heap.Word) bool {
		if byValue(h, test, a, b) {
			return true
		}
		sort, dims, parts := partsOf(h, test, a)
		sort2, dims2, parts2 := partsOf(h, test, b)
		if sort == 0 || sort != sort2 || !slices.Equal(dims, dims2) || len(parts) != len(parts2) {
			return false
		}
		for i, x := range parts {
			in, known := r[[2]heap.Word{x, parts2[i]}]
			if !in && (known || !byValue(h, test, x, parts2[i])) {
				return false
			}
		}
		return true
	}
	for changed := true; changed; {
		changed = false
		for _, a := range words {
			for _, b := range words {
				if p := [2]heap.Word{a, b}; r[p] && !stays(a, b) {
					r[p], changed = false, true
				}
			}
		}
	}
	return r
}

// someNumbers are texts of numbers, and others that are none, by their kinds.
func someNumbers() map[int][]string {
	return map[int][]string{
		heap.KindInt:    {"0", "1", "2", "-1", "1152921504606846976", "05", "-0", "+1", "", "x", "1 "},
		heap.KindRatio:  {"1/2", "-1/2", "2/4", "4/2", "1/1", "1/0", "1/02"},
		heap.KindSingle: {"00000000", "80000000", "3f800000", "40000000", "3f000000", "bf800000", "7f800000", "7fc00000", "3F800000", "3f8"},
		heap.KindDouble: {"0000000000000000", "8000000000000000", "3ff0000000000000", "4000000000000000", "3fe0000000000000", "7ff0000000000000", "3ff000000000000"},
	}
}

// anyWord is an immediate word, or a reference to an object.
func anyWord(r *rand.Rand, h *heap.Heap) heap.Word {
	switch r.Intn(8) {
	case 0, 1:
		return fix(r.Intn(4) - 1)
	case 2:
		return []heap.Word{char('a'), char('A'), char('b'), char('é'), char('É'), heap.Unbound, heap.Nil}[r.Intn(7)]
	}
	l := h.Objects()
	return l[r.Intn(len(l))]
}

// addAny makes an object of a kind that some test looks into, or of any other one.
func addAny(r *rand.Rand, h *heap.Heap) {
	switch n := r.Intn(12); {
	case n < 3:
		l := someNumbers()
		kind := heap.KindInt + r.Intn(4)
		h.Raw(kind, l[kind][r.Intn(len(l[kind]))])
	case n < 5:
		h.Raw(heap.KindString, []string{"", "a", "A", "ab", "aB", "é", "É", "\xff", "\ufffd", "a\xc3"}[r.Intn(10)])
	case n < 6:
		h.Raw(heap.KindBits, []string{"", "0", "1", "01", "0x", "2"}[r.Intn(6)])
	case n < 7:
		h.Raw([]int{heap.KindCons, heap.KindVector, heap.KindArray, heap.KindComplex, heap.KindBox}[r.Intn(5)], "ab"[r.Intn(3):])
	default:
		kind := []int{heap.KindCons, heap.KindCons, heap.KindCons, heap.KindVector, heap.KindVector, heap.KindArray, heap.KindComplex, heap.KindString, heap.KindBits, heap.KindInt, heap.KindBox, heap.KindSymbol}[r.Intn(12)]
		n := 2
		if kind == heap.KindVector || r.Intn(6) == 0 {
			n = r.Intn(4)
		}
		w, e := h.New(kind, n)
		for i := range h.Len(w) {
			if e == api.OK {
				h.Set(w, i, anyWord(r, h))
			}
		}
	}
}

// moveAll lays all objects anew, in any order.
func moveAll(t *testing.T, r *rand.Rand, h *heap.Heap) {
	t.Helper()
	l := h.Objects()[1:]
	r.Shuffle(len(l), func(i, j int) { l[i], l[j] = l[j], l[i] })
	at := r.Intn(len(l) + 1)
	is(t, "Keep", h.Keep(l[:at], l[at:]), api.OK)
}
