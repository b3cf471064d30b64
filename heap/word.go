package heap

import "commonform/api"

// Word is a word: a fixnum, a character, a mark, or a reference to an object.
type Word uint64

// Unbound is the mark of what has no value; Nil is the reference to the first object, the symbol NIL.
const (
	Unbound Word = 2
	Nil     Word = 3
)

// The lowest bits of a word are its tag, the others its value.
const (
	tagBits = 3
	tagMask = 1<<tagBits - 1
)

const (
	tagFixnum = iota
	tagCharacter
	tagMark
	tagReference
)

const (
	leastFixnum    = -1 << 60
	greatestFixnum = 1<<60 - 1

	greatestCharacter = 1114111
	firstSurrogate    = 55296
	lastSurrogate     = 57343
)

func (w Word) tag() int { return int(w & tagMask) }

func tagged(tag int, value uint64) Word {
	return Word(value<<tagBits) | Word(tag)
}

// Fix returns the fixnum n.
func Fix(n int64) (Word, api.Errno) {
	if n < leastFixnum || n > greatestFixnum {
		return 0, api.ErrRange
	}
	return tagged(tagFixnum, uint64(n)), api.OK
}

// Fixnum returns the value of a fixnum.
func (w Word) Fixnum() (int64, bool) {
	if w.tag() != tagFixnum {
		return 0, false
	}
	return int64(w) >> tagBits, true
}

// Char returns a character.
func Char(c rune) (Word, api.Errno) {
	if !isCharacter(int64(c)) {
		return 0, api.ErrRange
	}
	return tagged(tagCharacter, uint64(c)), api.OK
}

// Character returns the code of a character.
func (w Word) Character() (rune, bool) {
	code := int64(w >> tagBits)
	if w.tag() != tagCharacter || !isCharacter(code) {
		return 0, false
	}
	return rune(code), true
}

func isCharacter(code int64) bool {
	return code >= 0 && code <= greatestCharacter && (code < firstSurrogate || code > lastSurrogate)
}

// IsRef reports whether a word has the tag of references.
func (w Word) IsRef() bool { return w.tag() == tagReference }

// isImmediate reports whether a word means something without any object.
func (w Word) isImmediate() bool {
	_, ok := w.Character()
	return ok || w.tag() == tagFixnum || w == Unbound
}

// reference returns the reference to the object at a place.
func reference(place int) Word { return tagged(tagReference, uint64(place)) }
