package heap

import "iter"

// A header is the first word of an object: it has its kind, whether it has bytes, and how many fields or bytes. It is told from other words by its place alone.
type header Word

const (
	kindBits    = 5
	rawBit      = 1 << kindBits
	lengthShift = kindBits + 1

	bytesInWord = 8
)

func newHeader(kind int, raw bool, length int) header {
	head := header(length)<<lengthShift | header(kind)
	if raw {
		head |= rawBit
	}
	return head
}

func (head header) kind() int { return int(head & (rawBit - 1)) }

func (head header) isRaw() bool { return head&rawBit != 0 }

// length is the number of fields, or bytes.
func (head header) length() int { return int(head >> lengthShift) }

// size is the number of words that an object takes, with its header.
func (head header) size() int {
	if head.isRaw() {
		return 1 + (head.length()+bytesInWord-1)/bytesInWord
	}
	return 1 + head.length()
}

// find returns the place of the object to which a word is a reference.
func (h *Heap) find(w Word) (int, bool) {
	value := uint64(w >> tagBits)
	if h == nil || !w.IsRef() || value >= uint64(len(h.words)) {
		return 0, false
	}
	return int(value), h.heads[value/64]>>(value%64)&1 == 1
}

// has reports whether a word is immediate, or a reference to an object.
func (h *Heap) has(w Word) bool {
	_, ok := h.find(w)
	return ok || w.isImmediate()
}

func (h *Heap) hasAll(words []Word) bool {
	for _, w := range words {
		if !h.has(w) {
			return false
		}
	}
	return true
}

func (h *Heap) header(place int) header { return header(h.words[place]) }

// contents returns the words of an object behind its header, where they lie.
func (h *Heap) contents(place int) []Word {
	return h.words[place+1 : place+h.header(place).size()]
}

// fields returns the fields of an object, where they lie; nothing for one with bytes.
func (h *Heap) fields(place int) []Word {
	if h.header(place).isRaw() {
		return nil
	}
	return h.contents(place)
}

// bytes returns the bytes of an object that has some.
func (h *Heap) bytes(place int) string {
	at := unpacked(h.contents(place))
	b := make([]byte, h.header(place).length())
	for i := range b {
		b[i] = at(i)
	}
	return string(b)
}

// packed tells the words in which some bytes lie, by their indices.
func packed(bytes string) func(i int) Word {
	return func(i int) Word {
		var w Word
		for at := bytesInWord * i; at < min(bytesInWord*(i+1), len(bytes)); at++ {
			w |= Word(bytes[at]) << (at % bytesInWord * 8)
		}
		return w
	}
}

// unpacked tells the bytes that lie in some words, by their indices.
func unpacked(words []Word) func(i int) byte {
	return func(i int) byte {
		return byte(words[i/bytesInWord] >> (i % bytesInWord * 8))
	}
}

// places goes through the places of all objects, in order.
func (h *Heap) places() iter.Seq[int] {
	return func(yield func(int) bool) {
		if h == nil {
			return
		}
		for place := 0; place < len(h.words); place += h.header(place).size() {
			if !yield(place) {
				return
			}
		}
	}
}

// add lays an object behind all others, with Nil in its fields, and returns its place.
func (h *Heap) add(head header) int {
	place := len(h.words)
	h.words = append(h.words, Word(head))
	for range head.size() - 1 {
		h.words = append(h.words, Nil)
	}
	for len(h.heads)*64 < len(h.words) {
		h.heads = append(h.heads, 0)
	}
	h.heads[place/64] |= 1 << (place % 64)
	return place
}

// addRaw lays an object with bytes behind all others, and returns its place.
func (h *Heap) addRaw(kind int, bytes string) int {
	place := h.add(newHeader(kind, true, len(bytes)))
	word := packed(bytes)
	contents := h.contents(place)
	for i := range contents {
		contents[i] = word(i)
	}
	return place
}
