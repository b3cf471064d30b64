package token

import (
	"strings"

	"commonform/api"
)

func isBase(base int) bool {
	return base >= 2 && base <= 36
}

// isDigit reports whether a byte is a digit in a base; 0 to 9 are in every one.
func isDigit(c byte, base int) bool {
	const letters = "abcdefghijklmnopqrstuvwxyz"
	if c >= '0' && c <= '9' {
		return true
	}
	i := strings.IndexRune(letters, downcase(rune(c)))
	return i >= 0 && i+10 < base
}

func isLetter(c byte) bool {
	return isSmall(rune(c)) || isGreat(rune(c))
}

// Potential reports whether a text may be a number.
func Potential(s string, base int) (bool, api.Errno) {
	if e := textError(s); e != api.OK {
		return false, e
	}
	if !isBase(base) {
		return false, api.ErrArg
	}
	return isPotential(s, base), api.OK
}

func isPotential(s string, base int) bool {
	isMarker := func(i int) bool {
		return i >= 0 && i < len(s) && isLetter(s[i]) && !isDigit(s[i], base)
	}
	some := false
	for i := range len(s) {
		switch {
		case isDigit(s[i], base):
			some = true
		case isMarker(i):
			if isMarker(i-1) || isMarker(i+1) {
				return false
			}
		case strings.IndexByte("+-/.^_", s[i]) < 0:
			return false
		}
	}
	if !some {
		return false
	}
	first, last := s[0], s[len(s)-1]
	return first != '/' && !isMarker(0) && last != '+' && last != '-'
}

// Back returns a name with its letters as they are to be read.
func Back(t Table, name string) (string, api.Errno) {
	if e := Check(t); e != api.OK {
		return "", e
	}
	if e := textError(name); e != api.OK {
		return "", e
	}
	return t.back(name), api.OK
}

func (t Table) back(name string) string {
	chars := []rune(name)
	none := func(int) bool { return false }
	switch t.Case {
	case Upcase:
		changed(chars, none, downcase)
	case Downcase:
		changed(chars, none, upcase)
	case Invert:
		inverted(chars, none)
	}
	return string(chars)
}

// Escaped returns the text of which a token with given characters is read.
func Escaped(t Table, name string, base int) (string, api.Errno) {
	if e := Check(t); e != api.OK {
		return "", e
	}
	if e := textError(name); e != api.OK {
		return "", e
	}
	if !isBase(base) {
		return "", api.ErrArg
	}
	back := t.back(name)
	if t.isReadAs(back, name) && !isPotential(name, base) {
		return back, api.OK
	}
	return t.barred(name)
}

// isReadAs reports whether a text without escapes is read as a token that has just these characters, and is a symbol's name.
func (t Table) isReadAs(text, name string) bool {
	x, end, e := Next(t, text, 0)
	return e == api.OK && end == len(text) && !x.Escapes && string(x.Chars) == name && len(x.markers()) == 0 && Dots(x) == 0
}

// barred returns a name between bars.
func (t Table) barred(name string) (string, api.Errno) {
	bar, some := t.least(Multiple, '|')
	if !some {
		return "", api.ErrNone
	}
	single, isThere := t.least(Single, '\\')
	b := strings.Builder{}
	b.WriteRune(bar)
	for _, c := range name {
		if kind := t.kind(c); kind == Single || kind == Multiple {
			if !isThere {
				return "", api.ErrNone
			}
			b.WriteRune(single)
		}
		b.WriteRune(c)
	}
	b.WriteRune(bar)
	return b.String(), api.OK
}

// hasRightParts reports whether a name has the texts that one of its kind has.
func (n Name) hasRightParts() bool {
	switch n.Kind {
	case Symbol, Keyword:
		return n.Package == ""
	case External, Internal:
		return n.Package != "" && n.Name != ""
	}
	return false
}

// joined returns the text of a name whose parts are written so.
func (n Name) joined(ahead, name string) string {
	switch n.Kind {
	case Keyword:
		return ":" + name
	case External:
		return ahead + ":" + name
	case Internal:
		return ahead + "::" + name
	}
	return name
}

// mayMark reports whether a colon in the text of a name is read as a marker.
func (t Table) mayMark(n Name) bool {
	switch t.kind(':') {
	case Constituent:
		return true
	case Nonterminating:
		return n.Kind != Keyword // no token begins with it
	}
	return false
}

// names reports whether a text is read as the symbol.
func (t Table) names(text string, n Name) bool {
	x, end, e := Next(t, text, 0)
	if e != api.OK || end != len(text) {
		return false
	}
	read, e := Split(x)
	return e == api.OK && read == n
}

// Written returns the text of which a symbol is read.
func Written(t Table, n Name, base int) (string, api.Errno) {
	if e := Check(t); e != api.OK {
		return "", e
	}
	if !n.hasRightParts() {
		return "", api.ErrArg
	}
	ahead, e := "", api.OK
	if n.Package != "" {
		ahead, e = Escaped(t, n.Package, base)
		if e != api.OK {
			return "", e
		}
	}
	name, e := Escaped(t, n.Name, base)
	switch {
	case e != api.OK:
		return "", e
	case n.Kind == Symbol:
		return name, api.OK
	case !t.mayMark(n):
		return "", api.ErrNone
	}
	if text := n.joined(ahead, name); t.names(text, n) {
		return text, api.OK
	}
	return t.writtenWithBars(n)
}

// writtenWithBars returns the text of a symbol whose parts need bars together, though neither may need them alone: with Invert the letters of one count for those of the other.
func (t Table) writtenWithBars(n Name) (string, api.Errno) {
	ahead, e := "", api.OK
	if n.Package != "" {
		ahead, e = t.barred(n.Package)
		if e != api.OK {
			return "", e
		}
	}
	name, e := t.barred(n.Name)
	if e != api.OK {
		return "", e
	}
	return n.joined(ahead, name), api.OK
}
