package collect_test

import (
	"math/rand"
	"slices"
	"testing"

	"commonform/api"
	"commonform/collect"
	"commonform/heap"
)

func TestExamples(t *testing.T) {
	h, c := mustHeap(t, 100, 50)
	lost := cons(t, h, 8, heap.Nil)
	kept := cons(t, h, 16, heap.Nil)
	root := h.Root(kept)
	if h.Place(lost) != 6 || major(t, c) != (collect.Report{Major: true, Before: 12, After: 9}) || at(h, root) != 51 || h.Old() != 6 {
		t.Errorf("the cons is at the place %d, Old %d", h.Place(at(h, root)), h.Old())
	}
	if major(t, c) != (collect.Report{Major: true, Before: 9, After: 9, Promoted: 1}) || h.Old() != 9 {
		t.Errorf("behind the second Major: Old %d", h.Old())
	}

	h, c = mustHeap(t, 100, 50)
	weak := h.Root(made(t, h, heap.KindWeak, cons(t, h, 8, 16)))
	if r := major(t, c); r.Lost != 1 || !slices.Equal(fields(h, at(h, weak)), []heap.Word{heap.Unbound}) {
		t.Errorf("Lost %d, the weak reference is %v", r.Lost, fields(h, at(h, weak)))
	}

	h, c = mustHeap(t, 100, 50)
	key := cons(t, h, 8, 16)
	pair := h.Root(made(t, h, heap.KindEphemeron, key, cons(t, h, key, heap.Nil)))
	if r := major(t, c); r.Lost != 1 || h.Used() != 9 || !slices.Equal(fields(h, at(h, pair)), []heap.Word{heap.Unbound, heap.Unbound}) {
		t.Errorf("Lost %d, the ephemeron is %v", r.Lost, fields(h, at(h, pair)))
	}
}

func TestNil(t *testing.T) {
	if c, e := collect.New(nil); c != nil || e != api.ErrArg {
		t.Errorf("New(nil) = %v, %v", c, e)
	}
	var none *collect.Collector
	r1, e1 := none.Minor()
	r2, e2 := none.Major()
	r3, did, e3 := none.Step()
	if e1 != api.ErrArg || e2 != api.ErrArg || e3 != api.ErrArg || did || none.Watch(7, 1) != api.ErrArg || none.Watch(heap.Nil, 1) != api.ErrArg {
		t.Errorf("a nil collector: %v, %v, %v", e1, e2, e3)
	}
	if r1 != (collect.Report{}) || r2 != (collect.Report{}) || r3 != (collect.Report{}) || none.Heap() != nil || len(none.Live())+len(none.Ended())+len(none.Watched()) != 0 {
		t.Error("a nil collector has something")
	}
	for _, c := range []*collect.Collector{{}, must(collect.New(&heap.Heap{}))} { // these do no harm
		c.Minor()
		c.Major()
		c.Step()
		c.Watch(heap.Nil, 1)
		c.Live()
		c.Ended()
		c.Watched()
	}
}

func must[T any](x T, _ api.Errno) T { return x }

// The rules of what is strong, one by one: what is made of an object that a root holds, and whether it holds its fields.
func TestStrongParts(t *testing.T) {
	const held, gone, number = 0, 1, 2
	for _, c := range []struct {
		what string
		kind int
		has  []int // for each field, a cons that somebody else holds, one that nobody else does, or a number
		want []bool
		lost int
	}{
		{"a cons", heap.KindCons, []int{gone, gone}, []bool{true, true}, 0},
		{"a table", heap.KindTable, []int{gone, number, gone}, []bool{true, true, true}, 0},
		{"a weak reference", heap.KindWeak, []int{gone}, []bool{false}, 1},
		{"a weak reference to what is held", heap.KindWeak, []int{held}, []bool{true}, 0},
		{"a weak one with more fields", heap.KindWeak, []int{gone, gone, gone}, []bool{false, false, false}, 1},
		{"a weak one whose first field is held", heap.KindWeak, []int{held, gone}, []bool{true, false}, 0},
		{"a weak one with a number", heap.KindWeak, []int{number, gone}, []bool{true, false}, 0},
		{"a weak one without fields", heap.KindWeak, nil, nil, 0},
		{"an ephemeron without fields", heap.KindEphemeron, nil, nil, 0},
		{"an ephemeron with one field", heap.KindEphemeron, []int{gone}, []bool{true}, 0},
		{"an ephemeron", heap.KindEphemeron, []int{gone, gone}, []bool{false, false}, 1},
		{"an ephemeron whose key is held", heap.KindEphemeron, []int{held, gone}, []bool{true, true}, 0},
		{"an ephemeron whose value is held", heap.KindEphemeron, []int{gone, held}, []bool{false, false}, 1},
		{"an ephemeron whose value is a number", heap.KindEphemeron, []int{gone, number}, []bool{false, false}, 1},
		{"an ephemeron whose key is a number", heap.KindEphemeron, []int{number, gone}, []bool{true, true}, 0},
		{"an ephemeron with more fields", heap.KindEphemeron, []int{gone, gone, gone, gone}, []bool{false, false, true, true}, 1},
	} {
		for _, run := range []func(*testing.T, *collect.Collector) collect.Report{minor, major} {
			h, m := mustHeap(t, 200, 100)
			keep := cons(t, h, 80, 88)
			h.Root(keep)
			var l []heap.Word
			for _, what := range c.has {
				switch what {
				case held:
					l = append(l, keep)
				case gone:
					l = append(l, cons(t, h, 96, 104))
				default:
					l = append(l, 112)
				}
			}
			root := h.Root(made(t, h, c.kind, l...))
			r := run(t, m)
			var got []bool
			for _, x := range fields(h, at(h, root)) {
				got = append(got, x != heap.Unbound)
			}
			if !slices.Equal(got, c.want) || r.Lost != c.lost {
				t.Errorf("%s: has %v, Lost %d; expected %v, %d", c.what, got, r.Lost, c.want, c.lost)
			}
		}
	}
}

// What holds the key of an ephemeron, and what does not.
func TestEphemerons(t *testing.T) {
	const limit = 200
	for _, c := range []struct {
		what string
		make func(t *testing.T, h *heap.Heap) heap.Word // an ephemeron
		want bool                                       // whether it keeps its value
	}{
		{"its own value holds the key", func(t *testing.T, h *heap.Heap) heap.Word {
			key := cons(t, h, 8, 16)
			return made(t, h, heap.KindEphemeron, key, cons(t, h, key, 16))
		}, false},
		{"its third field holds the key", func(t *testing.T, h *heap.Heap) heap.Word {
			key := cons(t, h, 8, 16)
			return made(t, h, heap.KindEphemeron, key, cons(t, h, 8, 16), key)
		}, true},
		{"it is its own key", func(t *testing.T, h *heap.Heap) heap.Word {
			w := made(t, h, heap.KindEphemeron, 8, cons(t, h, 8, 16))
			h.Set(w, 0, w)
			return w
		}, true},
		{"the first object is its key", func(t *testing.T, h *heap.Heap) heap.Word {
			return made(t, h, heap.KindEphemeron, heap.Nil, cons(t, h, 8, 16))
		}, true},
		{"a weak reference has the key", func(t *testing.T, h *heap.Heap) heap.Word {
			key := cons(t, h, 8, 16)
			h.Root(made(t, h, heap.KindWeak, key))
			return made(t, h, heap.KindEphemeron, key, cons(t, h, 8, 16))
		}, false},
		{"another one's value holds the key, with a key that is held", func(t *testing.T, h *heap.Heap) heap.Word {
			key, other := cons(t, h, 8, 16), cons(t, h, 8, 16)
			w := made(t, h, heap.KindEphemeron, key, cons(t, h, 8, 16))
			h.Root(made(t, h, heap.KindEphemeron, other, key))
			h.Root(other)
			return w
		}, true},
		{"another one's value holds the key, with a key that nobody holds", func(t *testing.T, h *heap.Heap) heap.Word {
			key, other := cons(t, h, 8, 16), cons(t, h, 8, 16)
			h.Root(made(t, h, heap.KindEphemeron, other, key))
			return made(t, h, heap.KindEphemeron, key, cons(t, h, 8, 16))
		}, false},
		{"two hold each other's keys", func(t *testing.T, h *heap.Heap) heap.Word {
			a, b := cons(t, h, 8, 16), cons(t, h, 8, 16)
			h.Root(made(t, h, heap.KindEphemeron, a, b))
			return made(t, h, heap.KindEphemeron, b, a)
		}, false},
		{"two hold each other's keys, and a root one of them", func(t *testing.T, h *heap.Heap) heap.Word {
			a, b := cons(t, h, 8, 16), cons(t, h, 8, 16)
			h.Root(made(t, h, heap.KindEphemeron, a, b))
			h.Root(a)
			return made(t, h, heap.KindEphemeron, b, a)
		}, true},
		{"an ephemeron that nobody holds has the key as its value", func(t *testing.T, h *heap.Heap) heap.Word {
			key := cons(t, h, 8, 16)
			made(t, h, heap.KindEphemeron, 8, key)
			return made(t, h, heap.KindEphemeron, key, cons(t, h, 8, 16))
		}, false},
	} {
		for _, run := range []func(*testing.T, *collect.Collector) collect.Report{minor, major} {
			h, m := mustHeap(t, limit, 100)
			root := h.Root(c.make(t, h))
			r := run(t, m)
			l := fields(h, at(h, root))
			if got := l[1] != heap.Unbound; got != c.want || (l[0] != heap.Unbound) != c.want || r.Lost > 0 && c.want {
				t.Errorf("%s: the fields are %v, Lost %d", c.what, l, r.Lost)
			}
		}
	}
}

// A Minor lets no old object go, and takes all of them as reached, also those that nobody holds.
func TestMinorKeepsWhatIsOld(t *testing.T) {
	h, c := mustHeap(t, 200, 100)
	root := h.Root(cons(t, h, 8, 16))
	weakRoot := h.Root(made(t, h, heap.KindWeak, 8))
	minor(t, c)
	minor(t, c)
	old, weak := at(h, root), at(h, weakRoot)
	if h.Old() != 11 || h.Used() != 11 {
		t.Fatalf("Old %d, Used %d", h.Old(), h.Used())
	}
	h.Set(old, 0, cons(t, h, 24, 32))
	h.Set(weak, 0, cons(t, h, 40, 48))
	h.Drop(root)
	h.Drop(weakRoot)
	if r := minor(t, c); r.Lost != 1 || r.Promoted != 0 || h.Used() != 14 || h.Old() != 11 {
		t.Errorf("Minor: %+v; Used %d, Old %d", r, h.Used(), h.Old())
	}
	x, _ := h.Get(old, 0)
	if !slices.Equal(fields(h, x), []heap.Word{24, 32}) || !slices.Equal(fields(h, weak), []heap.Word{heap.Unbound}) {
		t.Errorf("what an old object has: %v", fields(h, x))
	}
	if r := major(t, c); r != (collect.Report{Major: true, Before: 14, After: 6}) || !slices.Equal(h.Objects(), []heap.Word{heap.Nil}) {
		t.Errorf("Major: %+v", r)
	}
}

// The fields of the first object hold what they have.
func TestNilHolds(t *testing.T) {
	for _, run := range []func(*testing.T, *collect.Collector) collect.Report{minor, major} {
		h, c := mustHeap(t, 200, 100)
		h.Set(heap.Nil, 4, cons(t, h, 8, 16))
		if r := run(t, c); r.After != 9 || !slices.Equal(c.Live(), []heap.Word{heap.Nil, 51}) {
			t.Errorf("%+v, Live %v", r, c.Live())
		}
	}
}

// Objects with an age become old, behind those that are; young ones stay in their order.
func TestAges(t *testing.T) {
	h, c := mustHeap(t, 200, 100)
	var roots []int
	add := func(n heap.Word) { roots = append(roots, h.Root(made(t, h, heap.KindBox, 8*n))) }
	values := func() []heap.Word {
		var l []heap.Word
		for _, w := range h.Objects()[1:] {
			l = append(l, fields(h, w)[0]/8)
		}
		return l
	}
	add(1)
	add(2)
	minor(t, c)
	add(3)
	made(t, h, heap.KindBox, 72)
	add(4)
	h.Drop(roots[0])
	if r := minor(t, c); r.Promoted != 1 || h.Old() != 8 || !slices.Equal(values(), []heap.Word{2, 3, 4}) {
		t.Errorf("%+v, Old %d, %v", r, h.Old(), values())
	}
	add(5)
	if r := major(t, c); r.Promoted != 2 || h.Old() != 12 || !slices.Equal(values(), []heap.Word{2, 3, 4, 5}) {
		t.Errorf("%+v, Old %d, %v", r, h.Old(), values())
	}
	add(6)
	is(t, "Keep", h.Keep(nil, h.Objects()[1:]), api.OK) // by somebody else: nothing has an age
	if r := minor(t, c); r.Promoted != 0 || h.Old() != 6 {
		t.Errorf("behind a Keep: %+v, Old %d", r, h.Old())
	}
	if r := minor(t, c); r.Promoted != 5 || h.Old() != h.Used() {
		t.Errorf("behind two more: %+v, Old %d", r, h.Old())
	}
	add(7)
	other, _ := collect.New(h) // to which all young objects are new
	minor(t, c)
	if r := minor(t, other); r.Promoted != 0 {
		t.Errorf("by another collector: %+v", r)
	}
	if r := minor(t, c); r.Promoted != 0 {
		t.Errorf("behind another collector: %+v", r)
	}
}

func TestStep(t *testing.T) {
	for _, c := range []struct {
		held, loose int // words
		want        collect.Report
		did         bool
	}{
		{20, 0, collect.Report{}, false}, {10, 10, collect.Report{}, false},
		{10, 11, collect.Report{Before: 27, After: 16}, true}, {21, 0, collect.Report{Before: 27, After: 27}, true},
		{44, 0, collect.Report{Before: 50, After: 50}, true}, {45, 0, collect.Report{Major: true, Before: 51, After: 51, Promoted: 1}, true}, {10, 84, collect.Report{Before: 100, After: 16}, true},
	} {
		h, m := mustHeap(t, 100, 20)
		h.Root(made(t, h, heap.KindVector, make([]heap.Word, c.held-1)...))
		if c.loose > 0 {
			made(t, h, heap.KindVector, make([]heap.Word, c.loose-1)...)
		}
		r, did, e := m.Step()
		if r != c.want || did != c.did || e != api.OK {
			t.Errorf("Step with %d and %d words = %+v, %v, %v; expected %+v", c.held, c.loose, r, did, e, c.want)
		}
	}
	h, m := mustHeap(t, 65, 20) // half of the limit is 32.5
	h.Root(made(t, h, heap.KindVector, make([]heap.Word, 26)...))
	if r, did, _ := m.Step(); !r.Major || !did {
		t.Errorf("Step with 33 words of 65 = %+v, %v", r, did)
	}
}

func TestWatch(t *testing.T) {
	h, c := mustHeap(t, 200, 100)
	a, b := cons(t, h, 8, 16), cons(t, h, 24, 32)
	root := h.Root(b)
	for _, x := range []struct {
		w    heap.Word
		want api.Errno
	}{{7, heap.ErrWord}, {8, heap.ErrWord}, {heap.Unbound, heap.ErrWord}, {777, heap.ErrWord}, {59, heap.ErrWord}, {1<<64 - 5, heap.ErrWord}, {heap.Nil, api.ErrArg}} {
		is(t, "Watch", c.Watch(x.w, 1), x.want)
	}
	if len(c.Watched()) != 0 {
		t.Error("an error waits")
	}
	for _, x := range []struct {
		w  heap.Word
		id int
	}{{b, 5}, {a, 9}, {a, -3}, {b, 9}, {a, 9}, {b, 5}} {
		is(t, "Watch", c.Watch(x.w, x.id), api.OK)
	}
	if !slices.Equal(c.Watched(), []int{5, 9, -3, 9, 9, 5}) || len(c.Ended()) != 0 {
		t.Errorf("Watched = %v", c.Watched())
	}
	minor(t, c)
	if !slices.Equal(c.Watched(), []int{5, 9, 5}) {
		t.Errorf("Watched = %v", c.Watched())
	}
	h.Drop(root)
	is(t, "Watch", c.Watch(cons(t, h, 40, 48), 77), api.OK)
	minor(t, c)
	if got := c.Ended(); !slices.Equal(got, []int{9, -3, 9, 5, 9, 5, 77}) || len(c.Ended()) != 0 || len(c.Watched()) != 0 {
		t.Errorf("Ended = %v", got)
	}
}

// What is old ends with a Major, and not ahead of it.
func TestWatchOld(t *testing.T) {
	h, c := mustHeap(t, 200, 100)
	root := h.Root(cons(t, h, 8, 16))
	is(t, "Watch", c.Watch(at(h, root), 1), api.OK)
	minor(t, c)
	minor(t, c)
	h.Drop(root)
	minor(t, c)
	if !slices.Equal(c.Watched(), []int{1}) {
		t.Error("an old object ended with a Minor")
	}
	major(t, c)
	if !slices.Equal(c.Ended(), []int{1}) {
		t.Error("an old object did not end with a Major")
	}
}

// Ends of several collections stand one behind the other, each in the order of Watch.
func TestEndedInOrder(t *testing.T) {
	h, c := mustHeap(t, 200, 100)
	root := h.Root(cons(t, h, 8, 16))
	for id, w := range []heap.Word{at(h, root), cons(t, h, 8, 16), at(h, root), cons(t, h, 8, 16)} {
		is(t, "Watch", c.Watch(w, id), api.OK)
	}
	major(t, c)
	h.Drop(root)
	major(t, c)
	if got := c.Ended(); !slices.Equal(got, []int{1, 3, 0, 2}) {
		t.Errorf("Ended = %v", got)
	}
}

// A chain of ephemerons of which each holds the next one's key, in any order, takes no time that can be noticed.
func TestLongChains(t *testing.T) {
	for _, order := range []string{"forward", "backward", "shuffled"} {
		const n = 9000
		h, c := mustHeap(t, 65536, 100)
		var keys, all []heap.Word
		for range n {
			keys = append(keys, made(t, h, heap.KindBox, 8))
		}
		l := rand.New(rand.NewSource(1)).Perm(n - 1)
		if order != "shuffled" {
			slices.Sort(l)
		}
		if order == "backward" {
			slices.Reverse(l)
		}
		for _, i := range l {
			all = append(all, made(t, h, heap.KindEphemeron, keys[i], keys[i+1]))
		}
		vector := made(t, h, heap.KindVector, all...)
		h.Root(vector)
		first := h.Root(keys[0])
		if r := major(t, c); r.Lost != 0 || r.After != r.Before {
			t.Errorf("%s: %+v", order, r)
		}
		h.Drop(first)
		if r := major(t, c); r.Lost != n-1 || r.After != r.Before-2*n {
			t.Errorf("%s: without the first key %+v", order, r)
		}
	}
}
