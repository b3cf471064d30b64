package table

import (
	"iter"

	"commonform/api"
	"commonform/heap"
)

// Fields of a table.
const (
	testField = iota
	weakField
	countField
	firstField
	indexField
	tableFields
)

// Fields of an entry.
const (
	keyField = iota
	valueField
	nextField
	linkField // the next entry of a chain of the index
	entryFields
)

const entryWords = 1 + entryFields

// A hashTable is a hash table in its heap. Its list has the entries in the order of their keys.
type hashTable struct {
	view
	word heap.Word
	weak bool
}

// open returns a hash table, and the errors of all calls: of the table, and then of other words.
func open(h *heap.Heap, t heap.Word, others ...heap.Word) (hashTable, api.Errno) {
	if e := check(h, t); e != api.OK {
		return hashTable{}, e
	}
	if _, e := h.Get(t, indexField); e != api.OK || h.Kind(t) != heap.KindTable || h.Len(t) != tableFields {
		return hashTable{}, ErrTable
	}
	x := hashTable{view: view{heap: h}, word: t}
	test, isNumber := x.get(t, testField).Fixnum()
	weak, isFlag := x.get(t, weakField).Fixnum()
	count, isCount := x.get(t, countField).Fixnum()
	if !isNumber || !isTest(test) || !isFlag || weak < 0 || weak > 1 || !isCount || count < 0 {
		return hashTable{}, ErrTable
	}
	x.test, x.weak = int(test), weak == 1
	return x, check(h, others...)
}

func (v view) get(w heap.Word, field int) heap.Word {
	x, _ := v.heap.Get(w, field)
	return x
}

func (v view) set(w heap.Word, field int, x heap.Word) { v.heap.Set(w, field, x) }

func fix(n int) heap.Word {
	w, _ := heap.Fix(int64(n))
	return w
}

func (t hashTable) count() int {
	n, _ := t.get(t.word, countField).Fixnum()
	return int(n)
}

func (t hashTable) setCount(n int) { t.set(t.word, countField, fix(n)) }

// entryKind is the kind of the entries: one of a weak table does not hold its key.
func (t hashTable) entryKind() int {
	if t.weak {
		return heap.KindEphemeron
	}
	return heap.KindEntry
}

// chain goes through entries, from one of them on, by a field that has the next one. It ends also if others made a circle of them.
func (t hashTable) chain(entry heap.Word, field int) iter.Seq[heap.Word] {
	return func(yield func(heap.Word) bool) {
		for range t.heap.Used() / entryWords {
			if t.heap.Kind(entry) != t.entryKind() || !yield(entry) {
				return
			}
			entry = t.get(entry, field)
		}
	}
}

// entries goes through all entries, in order.
func (t hashTable) entries() iter.Seq[heap.Word] {
	return t.chain(t.get(t.word, firstField), nextField)
}

// before returns the entry ahead of another one, Nil for the first one; for Nil the last entry.
func (t hashTable) before(entry heap.Word) heap.Word {
	last := heap.Nil
	for x := range t.entries() {
		if x == entry {
			break
		}
		last = x
	}
	return last
}

// setNext makes an entry the next one behind another one, or, behind Nil, the first one.
func (t hashTable) setNext(entry, next heap.Word) {
	if entry == heap.Nil {
		t.set(t.word, firstField, next)
		return
	}
	t.set(entry, nextField, next)
}

// tidy takes the entries whose keys are gone out of the list. With an index there are none: it is good only as long as nothing was moved, and keys are gone only with a move.
func (t hashTable) tidy() {
	if !t.weak {
		return
	}
	if _, ok := t.index(); ok {
		return
	}
	left, last := 0, heap.Nil
	for entry := range t.entries() {
		if t.get(entry, keyField) == heap.Unbound {
			t.setNext(last, t.get(entry, nextField))
			continue
		}
		left++
		last = entry
	}
	t.setCount(left)
}

// add makes a key the last one. Nothing is changed if there is no room for its entry; an index that cannot grow does no harm.
func (t hashTable) add(key, value heap.Word) api.Errno {
	index, isIndexed := t.index()
	entry, e := t.heap.New(t.entryKind(), entryFields)
	if e != api.OK {
		return e
	}
	t.set(entry, keyField, key)
	t.set(entry, valueField, value)
	if !isIndexed {
		t.setNext(t.before(heap.Nil), entry)
		t.setCount(t.count() + 1)
		return api.OK
	}
	t.setNext(t.get(index, lastSlot), entry)
	t.setCount(t.count() + 1)
	t.into(index)(entry)
	t.sign(index)
	t.grow(index)
	return api.OK
}

// remove takes an entry away.
func (t hashTable) remove(entry heap.Word) {
	index, isIndexed := t.index()
	before := t.before(entry)
	next := t.get(entry, nextField)
	t.setNext(before, next)
	t.setCount(t.count() - 1)
	if !isIndexed {
		return
	}
	if next == heap.Nil {
		t.set(index, lastSlot, before)
	}
	t.leave(index, entry)
	t.sign(index)
}
