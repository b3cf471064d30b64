package token

import (
	"cmp"
	"slices"
	"unicode/utf8"

	"commonform/api"
)

// Standard returns the standard kind of a character.
func Standard(c rune) int {
	switch c {
	case '\t', '\n', '\f', '\r', ' ':
		return White
	case '"', '\'', '(', ')', ',', ';', '`':
		return Terminating
	case '#':
		return Nonterminating
	case '\\':
		return Single
	case '|':
		return Multiple
	}
	if c < ' ' || c == 127 || !utf8.ValidRune(c) {
		return Invalid
	}
	return Constituent
}

func isKind(kind int) bool {
	return kind >= Invalid && kind <= Multiple
}

// Check returns the error of a readtable.
func Check(t Table) api.Errno {
	switch {
	case len(t.Entries) > MaxEntries:
		return api.ErrSize
	case t.Case < Upcase || t.Case > Invert:
		return api.ErrArg
	}
	for i, x := range t.Entries {
		switch {
		case !utf8.ValidRune(x.Char) || !isKind(x.Kind) || x.Kind == Standard(x.Char):
			return api.ErrArg
		case i > 0 && x.Char <= t.Entries[i-1].Char:
			return api.ErrOrder
		}
	}
	return api.OK
}

// search returns the index of the entry of a character, or where it would stand, and whether there is one.
func (t Table) search(c rune) (int, bool) {
	return slices.BinarySearchFunc(t.Entries, c, func(x Entry, c rune) int {
		return cmp.Compare(x.Char, c)
	})
}

// kind returns the kind of a character in a readtable without an error.
func (t Table) kind(c rune) int {
	if i, some := t.search(c); some {
		return t.Entries[i].Kind
	}
	return Standard(c)
}

// least returns the character with the least code that is of a kind of which just one character is by standard, and whether there is any.
func (t Table) least(kind int, standard rune) (rune, bool) {
	for _, x := range t.Entries {
		if x.Kind == kind && x.Char < standard {
			return x.Char, true
		}
	}
	if t.kind(standard) == kind {
		return standard, true
	}
	for _, x := range t.Entries {
		if x.Kind == kind {
			return x.Char, true
		}
	}
	return 0, false
}

// Kind returns the kind of a character.
func Kind(t Table, c rune) (int, api.Errno) {
	if e := Check(t); e != api.OK {
		return 0, e
	}
	if !utf8.ValidRune(c) {
		return 0, api.ErrArg
	}
	return t.kind(c), api.OK
}

// Set returns a readtable in which a character is of another kind.
func Set(t Table, c rune, kind int) (Table, api.Errno) {
	if e := Check(t); e != api.OK {
		return Table{}, e
	}
	if !utf8.ValidRune(c) || !isKind(kind) {
		return Table{}, api.ErrArg
	}
	entries := slices.Clone(t.Entries)
	i, some := t.search(c)
	switch {
	case some && kind == Standard(c):
		entries = slices.Delete(entries, i, i+1)
	case some:
		entries[i].Kind = kind
	case kind == Standard(c): // nothing to be said of it
	case len(entries) == MaxEntries:
		return Table{}, api.ErrFull
	default:
		entries = slices.Insert(entries, i, Entry{c, kind})
	}
	return Table{Entries: entries, Case: t.Case}, api.OK
}
