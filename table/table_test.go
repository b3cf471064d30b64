package table_test

import (
	"math"
	"slices"
	"strconv"
	"testing"

	"commonform/api"
	"commonform/collect"
	"commonform/heap"
	"commonform/table"
)

func TestExamples(t *testing.T) {
	h := mustHeap(t, 1000)
	a, b := cons(t, h, fix(1), fix(2)), cons(t, h, fix(1), fix(2))
	if same(t, h, table.EqlTest, a, b) || !same(t, h, table.EqualTest, a, b) {
		t.Error("two conses of 1 and 2")
	}
	two := raw(t, h, heap.KindSingle, "40000000")
	if same(t, h, table.EqualTest, fix(2), two) || !same(t, h, table.EqualpTest, fix(2), two) {
		t.Error("2 and 2.0")
	}
	if !same(t, h, table.EqualpTest, str(t, h, "Ab"), made(t, h, heap.KindVector, char('a'), char('B'))) {
		t.Error("a string and a vector")
	}
	m := mustTable(t, h, table.EqualTest, false)
	x, y := str(t, h, "x"), str(t, h, "x")
	put(t, h, m, x, fix(4))
	put(t, h, m, y, fix(5))
	has(t, h, m, x, fix(5))
	m = mustTable(t, h, table.Eq, false)
	for _, n := range []int{3, 1, 2} {
		put(t, h, m, fix(n), heap.Nil)
	}
	if ok, e := table.Remove(h, m, fix(3)); !ok || e != api.OK {
		t.Errorf("Remove = %v, %v", ok, e)
	}
	put(t, h, m, fix(3), heap.Nil)
	has(t, h, m, fix(1), heap.Nil, fix(2), heap.Nil, fix(3), heap.Nil)
}

func TestNew(t *testing.T) {
	for test := range 4 {
		for _, weak := range []bool{false, true} {
			h := mustHeap(t, 64)
			m := mustTable(t, h, test, weak)
			gotTest, gotWeak, e := table.Test(h, m)
			if gotTest != test || gotWeak != weak || e != api.OK || h.Kind(m) != heap.KindTable {
				t.Errorf("Test = %d, %v, %v", gotTest, gotWeak, e)
			}
			has(t, h, m)
			l, _ := fields(h, m)
			flag := heap.Word(0)
			if weak {
				flag = 8
			}
			if !slices.Equal(l, []heap.Word{fix(test), flag, 0, heap.Nil, heap.Nil}) {
				t.Errorf("a new table has the fields %v", l)
			}
		}
	}
	for _, test := range []int{-1, 4, math.MaxInt, math.MinInt} {
		h := mustHeap(t, 64)
		if m, e := table.New(h, test, true); m != 0 || e != api.ErrArg || h.Used() != 6 {
			t.Errorf("New(%d) = %d, %v", test, m, e)
		}
	}
	h := mustHeap(t, 64)
	made(t, h, heap.KindVector, make([]heap.Word, 52)...)
	if m, e := table.New(h, 0, false); m != 0 || e != api.ErrWords || h.Used() != 59 {
		t.Errorf("New without room = %d, %v", m, e)
	}
	if _, e := table.New(h, 9, false); e != api.ErrArg {
		t.Errorf("New without a test and room: %v", e)
	}
}

// A call is any function of a table, a key and a value, that returns its error, and whether it returned anything else.
type call struct {
	name        string
	words       int // how many words it takes
	isOfTable   bool
	do          func(h *heap.Heap, l [3]heap.Word) (api.Errno, bool)
	anyTestFits bool
}

func calls() []call {
	relation := func(name string, f func(*heap.Heap, heap.Word, heap.Word) (bool, api.Errno)) call {
		return call{name, 2, false, func(h *heap.Heap, l [3]heap.Word) (api.Errno, bool) {
			ok, e := f(h, l[0], l[1])
			return e, ok
		}, true}
	}
	hash := func(test int) call {
		return call{"Hash " + strconv.Itoa(test), 1, false, func(h *heap.Heap, l [3]heap.Word) (api.Errno, bool) {
			n, e := table.Hash(h, test, l[0])
			return e, n != 0
		}, test >= 0 && test < 4}
	}
	return []call{
		relation("Eql", table.Eql), relation("Equal", table.Equal), relation("Equalp", table.Equalp), hash(0), hash(1), hash(2), hash(3), hash(4), hash(-1),
		{"Test", 1, true, func(h *heap.Heap, l [3]heap.Word) (api.Errno, bool) {
			test, weak, e := table.Test(h, l[0])
			return e, test != 0 || weak
		}, true},
		{"Get", 2, true, func(h *heap.Heap, l [3]heap.Word) (api.Errno, bool) {
			w, ok, e := table.Get(h, l[0], l[1])
			return e, w != 0 || ok
		}, true},
		{"Put", 3, true, func(h *heap.Heap, l [3]heap.Word) (api.Errno, bool) { return table.Put(h, l[0], l[1], l[2]), false }, true},
		{"Remove", 2, true, func(h *heap.Heap, l [3]heap.Word) (api.Errno, bool) {
			ok, e := table.Remove(h, l[0], l[1])
			return e, ok
		}, true},
		{"Clear", 1, true, func(h *heap.Heap, l [3]heap.Word) (api.Errno, bool) { return table.Clear(h, l[0]), false }, true},
		{"Count", 1, true, func(h *heap.Heap, l [3]heap.Word) (api.Errno, bool) {
			n, e := table.Count(h, l[0])
			return e, n != 0
		}, true},
		{"Keys", 1, true, func(h *heap.Heap, l [3]heap.Word) (api.Errno, bool) {
			x, e := table.Keys(h, l[0])
			return e, x != nil
		}, true},
		{"Values", 1, true, func(h *heap.Heap, l [3]heap.Word) (api.Errno, bool) {
			x, e := table.Values(h, l[0])
			return e, x != nil
		}, true},
		{"Cool", 1, true, func(h *heap.Heap, l [3]heap.Word) (api.Errno, bool) { return table.Cool(h, l[0]), false }, true},
	}
}

// The errors of all functions, for all sorts of words in all places.
func TestErrors(t *testing.T) {
	h := mustHeap(t, 2000)
	m := mustTable(t, h, table.EqualTest, true)
	key := cons(t, h, 8, 16)
	put(t, h, m, key, fix(5))
	bad := []heap.Word{7, 4, 10, 1<<64 - 1, heap.Word(7*8 + 3), 55296<<3 | 1}
	noTable := []heap.Word{0, 8, 777, heap.Unbound, heap.Nil, key, str(t, h, "abcde"), raw(t, h, heap.KindTable, "abcde"), raw(t, h, heap.KindTable, ""), made(t, h, heap.KindTable), made(t, h, heap.KindTable, 0, 0, 0, heap.Nil), made(t, h, heap.KindTable, 0, 0, 0, heap.Nil, heap.Nil, heap.Nil), made(t, h, heap.KindTable, heap.Nil, heap.Nil, heap.Nil, heap.Nil, heap.Nil), made(t, h, heap.KindTable, fix(4), 0, 0, heap.Nil, heap.Nil), made(t, h, heap.KindTable, fix(-1), 0, 0, heap.Nil, heap.Nil), made(t, h, heap.KindTable, 0, fix(2), 0, heap.Nil, heap.Nil), made(t, h, heap.KindTable, 0, fix(-1), 0, heap.Nil, heap.Nil), made(t, h, heap.KindTable, 0, 0, fix(-1), heap.Nil, heap.Nil), made(t, h, heap.KindTable, 0, 0, heap.Unbound, heap.Nil, heap.Nil), made(t, h, heap.KindVector, 0, 0, 0, heap.Nil, heap.Nil), made(t, h, heap.KindTable, char('a'), 0, 0, heap.Nil, heap.Nil)}
	used := h.Used()
	for _, c := range calls() {
		try := func(what string, h *heap.Heap, l [3]heap.Word, want api.Errno) {
			t.Helper()
			if e, isMore := c.do(h, l); e != want || e != api.OK && isMore {
				t.Errorf("%s with %s %v: %v (with more: %v); expected %v", c.name, what, l, e, isMore, want)
			}
		}
		good := [3]heap.Word{m, key, fix(6)}
		if !c.isOfTable {
			good[0] = key
		}
		try("no heap", nil, good, api.ErrArg)
		try("no heap", nil, [3]heap.Word{7, 7, 7}, api.ErrArg)
		for _, w := range bad {
			for i := range c.words {
				l := good
				l[i] = w
				try("a bad word", h, l, heap.ErrWord)
				l[0] = w
				try("bad words", h, l, heap.ErrWord)
			}
		}
		for _, w := range noTable {
			if c.isOfTable {
				try("no table", h, [3]heap.Word{w, key, 8}, table.ErrTable)
				try("no table and bad words", h, [3]heap.Word{w, 7, 7}, table.ErrTable)
			}
		}
		if !c.anyTestFits {
			try("no test", h, good, api.ErrArg)
		}
	}
	for _, value := range []heap.Word{8, heap.Unbound} {
		is(t, "Put of Unbound", table.Put(h, m, heap.Unbound, value), api.ErrArg)
	}
	is(t, "Put of Unbound, and a bad value", table.Put(h, m, heap.Unbound, 7), heap.ErrWord)
	if h.Used() != used {
		t.Error("errors take words")
	}
	if _, ok, e := table.Get(h, m, heap.Unbound); ok || e != api.OK {
		t.Errorf("Get of Unbound: %v, %v", ok, e)
	}
	for _, c := range calls() { // a heap that heap.New did not return does no harm
		c.do(&heap.Heap{}, [3]heap.Word{heap.Nil, heap.Nil, heap.Nil})
		c.do(&heap.Heap{}, [3]heap.Word{})
	}
	if _, e := table.New(&heap.Heap{}, 0, false); e != api.ErrArg {
		t.Errorf("New in no heap: %v", e)
	}
	if m, e := table.New(nil, 9, false); m != 0 || e != api.ErrArg {
		t.Errorf("New in a nil heap: %v", e)
	}
}

func TestUnbound(t *testing.T) {
	h := mustHeap(t, 1000)
	m := mustTable(t, h, table.EqlTest, false)
	put(t, h, m, heap.Unbound, heap.Unbound)
	put(t, h, m, heap.Nil, heap.Unbound)
	put(t, h, m, fix(1), fix(2))
	has(t, h, m, heap.Unbound, heap.Unbound, heap.Nil, heap.Unbound, fix(1), fix(2))
	if w, ok, _ := table.Get(h, m, heap.Unbound); w != heap.Unbound || !ok {
		t.Errorf("Get of Unbound = %d, %v", w, ok)
	}
	if ok, _ := table.Remove(h, m, heap.Unbound); !ok {
		t.Error("Remove of Unbound")
	}
	has(t, h, m, heap.Nil, heap.Unbound, fix(1), fix(2))
	w := mustTable(t, h, table.Eq, true)
	put(t, h, w, fix(1), heap.Unbound)
	has(t, h, w, fix(1), heap.Unbound)
}

func TestClear(t *testing.T) {
	for _, n := range []int{0, 3, 100} {
		h := mustHeap(t, 3000)
		m := mustTable(t, h, table.EqlTest, false)
		for i := range n {
			put(t, h, m, fix(i), fix(-i))
		}
		is(t, "Clear", table.Clear(h, m), api.OK)
		has(t, h, m)
		if w, ok, e := table.Get(h, m, fix(1)); w != heap.Nil || ok || e != api.OK {
			t.Errorf("Get behind Clear = %d, %v, %v", w, ok, e)
		}
		put(t, h, m, fix(7), fix(8))
		has(t, h, m, fix(7), fix(8))
	}
}

// What is removed is not held any more, at whatever place it was in the table, and however great this was.
func TestNothingIsLeft(t *testing.T) {
	for _, n := range []int{1, 3, 9, 10, 40} {
		for at := range n {
			for test := range 4 {
				h := mustHeap(t, 3000)
				c, _ := collect.New(h)
				root := h.Root(mustTable(t, h, test, false))
				m := func() heap.Word { w, _ := h.At(root); return w }
				for i := range n {
					put(t, h, m(), cons(t, h, fix(i), heap.Nil), cons(t, h, fix(i), heap.Nil))
				}
				if at%2 == 0 {
					c.Major()
				}
				keys, _ := table.Keys(h, m())
				is(t, "Watch", c.Watch(keys[at], 1), api.OK)
				is(t, "Watch", c.Watch(keys[(at+1)%n], 2), api.OK)
				if ok, e := table.Remove(h, m(), keys[at]); !ok || e != api.OK {
					t.Fatalf("Remove = %v, %v", ok, e)
				}
				c.Major()
				want := []int{1}
				if n == 1 {
					want = []int{1, 2}
				}
				if got := c.Ended(); !slices.Equal(got, want) {
					t.Fatalf("%d of %d keys: Ended = %v", at, n, got)
				}
				is(t, "Clear", table.Clear(h, m()), api.OK)
				c.Major()
				if h.Used() != 12 {
					t.Fatalf("an empty table holds %d words", h.Used()-12)
				}
			}
		}
	}
}

// A table that gets smaller and smaller holds none of its old keys, be they removed ahead of a collection or behind it.
func TestNothingIsLeftOfMany(t *testing.T) {
	for _, often := range []int{1, 2, 3, 5} {
		h := mustHeap(t, 3000)
		c, _ := collect.New(h)
		root := h.Root(mustTable(t, h, table.Eq, false))
		m := func() heap.Word { w, _ := h.At(root); return w }
		for i := range 25 {
			key := made(t, h, heap.KindBox, fix(i))
			put(t, h, m(), key, key)
			is(t, "Watch", c.Watch(key, i), api.OK)
		}
		for i := range 25 {
			keys, _ := table.Keys(h, m())
			if ok, e := table.Remove(h, m(), keys[len(keys)/2]); !ok || e != api.OK {
				t.Fatalf("Remove = %v, %v", ok, e)
			}
			if i%often > 0 {
				continue
			}
			c.Major()
			if n, _ := table.Count(h, m()); n != 24-i || len(c.Watched()) != n {
				t.Fatalf("of %d keys %d are left in the heap", n, len(c.Watched()))
			}
		}
	}
}

// Put without room changes nothing; in a full heap all other calls go on, and known keys get values.
func TestNoRoom(t *testing.T) {
	for _, n := range []int{0, 1, 8, 9, 10, 30} {
		for free := range 12 {
			for _, isCool := range []bool{false, true} {
				h := mustHeap(t, 600)
				m := mustTable(t, h, table.EqualTest, false)
				var want []heap.Word
				for i := range n {
					k := str(t, h, strconv.Itoa(i))
					put(t, h, m, k, fix(i))
					want = append(want, k, fix(i))
				}
				key := str(t, h, "new")
				if isCool {
					is(t, "Cool", table.Cool(h, m), api.OK)
				}
				made(t, h, heap.KindVector, make([]heap.Word, h.Limit()-h.Used()-1-free)...)
				e := table.Put(h, m, key, fix(99))
				if free < 5 && (e != api.ErrWords || h.Used() != h.Limit()-free) || free >= 5 && e != api.OK {
					t.Fatalf("Put with %d keys and %d words: %v, Used %d of %d", n, free, e, h.Used(), h.Limit())
				}
				if e == api.OK {
					want = append(want, key, fix(99))
				}
				has(t, h, m, want...)
				for i := range n {
					if w, ok, e := table.Get(h, m, want[2*i]); w != fix(i) || !ok || e != api.OK {
						t.Fatalf("Get in a full heap = %d, %v, %v", w, ok, e)
					}
					put(t, h, m, want[2*i], fix(-i))
				}
				for i := range n {
					if ok, e := table.Remove(h, m, want[2*i]); !ok || e != api.OK {
						t.Fatalf("Remove in a full heap: %v, %v", ok, e)
					}
				}
				has(t, h, m, want[2*n:]...)
			}
		}
	}
}

// Thousands of keys of one sort take no time that can be noticed.
func TestManyKeys(t *testing.T) {
	for _, c := range []struct {
		what  string
		test  int
		n     int
		make  func(h *heap.Heap, i int) heap.Word
		fresh bool // whether another word that is made likewise is the same
	}{
		{"fixnums", table.Eq, 8000, func(h *heap.Heap, i int) heap.Word { return fix(i) }, true},
		{"conses", table.EqlTest, 4000, func(h *heap.Heap, i int) heap.Word { return cons(t, h, fix(i), heap.Nil) }, false},
		{"integers", table.EqlTest, 4000, func(h *heap.Heap, i int) heap.Word { return raw(t, h, heap.KindInt, strconv.Itoa(i)) }, true},
		{"strings", table.EqualTest, 4000, func(h *heap.Heap, i int) heap.Word { return str(t, h, strconv.Itoa(i)) }, true},
		{"strings", table.EqualpTest, 3000, func(h *heap.Heap, i int) heap.Word { return str(t, h, "key"+strconv.Itoa(i)) }, true},
		{"lists", table.EqualTest, 1500, func(h *heap.Heap, i int) heap.Word { return list(t, h, fix(i%40), fix(i/40)) }, true},
		{"symbols", table.EqualTest, 3000, func(h *heap.Heap, i int) heap.Word {
			return made(t, h, heap.KindSymbol, fix(i), heap.Nil, heap.Unbound, heap.Unbound, heap.Nil)
		}, false},
	} {
		h := mustHeap(t, 65536)
		m := h.Root(mustTable(t, h, c.test, false))
		at := func() heap.Word { w, _ := h.At(m); return w }
		for i := range c.n {
			put(t, h, at(), c.make(h, i), fix(i))
		}
		is(t, "Keep", h.Keep(nil, reached(h, at())), api.OK)
		keys, _ := table.Keys(h, at())
		for i := range c.n {
			w, ok, _ := table.Get(h, at(), keys[i])
			if !ok || w != fix(i) {
				t.Fatalf("%s: Get of the key %d = %d, %v", c.what, i, w, ok)
			}
		}
		for i := 0; i < c.n; i += 97 {
			key := c.make(h, i)
			if w, ok, _ := table.Get(h, at(), key); ok != c.fresh || ok && w != fix(i) {
				t.Fatalf("%s: Get of another key %d = %d, %v", c.what, i, w, ok)
			}
			if ok, _ := table.Remove(h, at(), keys[i]); !ok {
				t.Fatalf("%s: Remove of the key %d", c.what, i)
			}
		}
		if n, _ := table.Count(h, at()); n != c.n-(c.n+96)/97 {
			t.Errorf("%s: Count = %d", c.what, n)
		}
	}
}

// reached returns the objects that are met from a word, but for the first one.
func reached(h *heap.Heap, from heap.Word) []heap.Word {
	met := map[heap.Word]bool{heap.Nil: true, from: true}
	l := []heap.Word{from}
	for i := 0; i < len(l); i++ {
		parts, _ := fields(h, l[i])
		for _, x := range parts {
			if x.IsRef() && !met[x] {
				met[x] = true
				l = append(l, x)
			}
		}
	}
	return l
}
