package table

import (
	"slices"

	"commonform/api"
	"commonform/heap"
)

// An index is a vector of these fields, and then of the chains of entries by the hashes of their keys. What a key is the same as may change with the parts of the key, unnoticed: all such keys are in one chain, and asked one by one.
const (
	signSlot = iota
	lastSlot
	changeableSlot
	firstSlot
)

const (
	fewKeys  = 8 // so many keys need no index
	maxSlots = 16384
)

// index returns the index of a table, and whether it is good.
func (t hashTable) index() (heap.Word, bool) {
	index := t.get(t.word, indexField)
	return index, t.isIndex(index) && t.get(index, signSlot) == t.signature()
}

func (t hashTable) isIndex(w heap.Word) bool {
	return t.heap.Kind(w) == heap.KindVector && t.heap.Len(w) > firstSlot
}

// signature is another word when objects were moved. A copy of a table that others laid has another one, too, unless its first key is immediate, or lies at the same place.
func (t hashTable) signature() heap.Word {
	first := t.get(t.word, firstField)
	s := newSum(uint64(t.heap.Moves()))
	for _, w := range []heap.Word{t.word, first, t.get(first, keyField)} {
		s = s.with(uint64(t.heap.Place(w) + 1))
	}
	return fix(int(s >> 8))
}

// sign makes an index good.
func (t hashTable) sign(index heap.Word) { t.set(index, signSlot, t.signature()) }

// chains is the number of chains of an index that go by hashes.
func (t hashTable) chains(index heap.Word) int { return t.heap.Len(index) - firstSlot }

// slot is where the chain of a hash begins.
func (t hashTable) slot(index, key heap.Word) int {
	return firstSlot + int(t.hash(key, true)%uint64(t.chains(index)))
}

// slotOf is where the chain of an entry begins.
func (t hashTable) slotOf(index, entry heap.Word) int {
	key := t.get(entry, keyField)
	if t.isChangeable(key) {
		return changeableSlot
	}
	return t.slot(index, key)
}

// into returns what lays an entry, behind all others, into an index.
func (t hashTable) into(index heap.Word) func(entry heap.Word) {
	return func(entry heap.Word) {
		slot := t.slotOf(index, entry)
		t.set(entry, linkField, t.get(index, slot))
		t.set(index, slot, entry)
		t.set(index, lastSlot, entry)
	}
}

// leave takes an entry out of its chain.
func (t hashTable) leave(index, entry heap.Word) {
	slot := t.slotOf(index, entry)
	before := heap.Nil
	for x := range t.chain(t.get(index, slot), linkField) {
		if x == entry {
			break
		}
		before = x
	}
	link := t.get(entry, linkField)
	if before == heap.Nil {
		t.set(index, slot, link)
		return
	}
	t.set(before, linkField, link)
}

// fill lays all entries into an index, which is the one of the table then.
func (t hashTable) fill(index heap.Word) {
	for slot := range t.heap.Len(index) {
		t.set(index, slot, heap.Nil)
	}
	lay := t.into(index)
	for entry := range t.entries() {
		lay(entry)
	}
	t.set(t.word, indexField, index)
	t.sign(index)
}

// grow gives a table whose chains are long a greater index, if there is room.
func (t hashTable) grow(index heap.Word) {
	if t.count() <= t.chains(index) {
		return
	}
	if greater, ok := t.newIndex(); ok {
		t.fill(greater)
	}
}

// newIndex returns an empty index, unless there is no room for it and one more entry.
func (t hashTable) newIndex() (heap.Word, bool) {
	slots := min(firstSlot+2*t.count(), maxSlots)
	if t.heap.Used()+1+slots+entryWords > t.heap.Limit() {
		return 0, false
	}
	index, e := t.heap.New(heap.KindVector, slots)
	return index, e == api.OK
}

// vector returns what an index can be laid into: the vector that a table has, or a greater one, if there is room.
func (t hashTable) vector() (heap.Word, bool) {
	old := t.get(t.word, indexField)
	isThere := t.isIndex(old)
	if isThere && t.chains(old) >= t.count() {
		return old, true
	}
	if index, ok := t.newIndex(); ok {
		return index, true
	}
	return old, isThere
}

// settle returns a good index, which is laid anew if need be; without one all entries have to be looked at.
func (t hashTable) settle() (heap.Word, bool) {
	if index, ok := t.index(); ok {
		return index, true
	}
	t.tidy()
	if t.count() > fewKeys {
		if index, ok := t.vector(); ok {
			t.fill(index)
			return index, true
		}
	}
	if t.get(t.word, indexField) != heap.Nil {
		t.cool()
	}
	return 0, false
}

// cool takes the index away, and its chains, which would hold entries that are removed later.
func (t hashTable) cool() {
	for entry := range t.entries() {
		t.set(entry, linkField, fix(0))
	}
	t.set(t.word, indexField, heap.Nil)
}

// find returns the first entry whose key is the same as a key.
func (t hashTable) find(key heap.Word) (heap.Word, bool) {
	isWanted := func(entry heap.Word) bool { return t.areSame(t.get(entry, keyField), key) }
	index, ok := t.settle()
	if !ok {
		return t.first(isWanted)
	}
	var found []heap.Word
	for _, slot := range []int{t.slot(index, key), changeableSlot} {
		for entry := range t.chain(t.get(index, slot), linkField) {
			if isWanted(entry) {
				found = append(found, entry)
			}
		}
	}
	switch len(found) {
	case 0:
		return 0, false
	case 1:
		return found[0], true
	}
	// Keys that were not the same became so when others changed their parts.
	return t.first(func(entry heap.Word) bool { return slices.Contains(found, entry) })
}

// first returns the first entry of which something is true.
func (t hashTable) first(is func(heap.Word) bool) (heap.Word, bool) {
	for entry := range t.entries() {
		if is(entry) {
			return entry, true
		}
	}
	return 0, false
}
