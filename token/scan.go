package token

import (
	"slices"
	"strings"
	"unicode/utf8"

	"commonform/api"
)

// Skip returns where the white characters end.
func Skip(t Table, s string, at int) (int, api.Errno) {
	if e := check(t, s, at); e != api.OK {
		return 0, e
	}
	for i, c := range characters(s, at) {
		if t.kind(c) != White {
			return i, api.OK
		}
	}
	return len(s), api.OK
}

// Next returns the token that begins at a place, and where it ends.
func Next(t Table, s string, at int) (Token, int, api.Errno) {
	if e := check(t, s, at); e != api.OK {
		return Token{}, 0, e
	}
	if at == len(s) {
		return Token{}, 0, api.ErrNone
	}
	c, _ := utf8.DecodeRuneInString(s[at:])
	switch t.kind(c) {
	case White, Terminating, Nonterminating:
		return Token{}, 0, api.ErrArg
	}
	x, end, e := t.scan(s, at)
	if e != api.OK {
		return Token{}, 0, e
	}
	x.changeCase(t.Case)
	return x, end, api.OK
}

// scan returns the token that begins at a place, with its letters as they are, and where it ends.
func (t Table) scan(s string, at int) (Token, int, api.Errno) {
	x, end := Token{}, len(s)
	single, multiple := false, false // a Single character is just ahead; a Multiple one is open
	add := func(c rune, isEscaped bool) {
		x.Chars = append(x.Chars, c)
		x.Escaped = append(x.Escaped, isEscaped)
		x.Escapes = x.Escapes || isEscaped
	}
scan:
	for i, c := range characters(s, at) {
		kind := t.kind(c)
		switch {
		case single:
			add(c, true)
			single = false
		case kind == Single:
			single = true
		case kind == Multiple:
			multiple = !multiple
			x.Escapes = true // there may be nothing between two of them
		case multiple:
			add(c, true)
		case kind == White || kind == Terminating:
			end = i
			break scan
		case kind == Invalid:
			return Token{}, 0, ErrInvalid
		default:
			add(c, false)
		}
	}
	if single || multiple {
		return Token{}, 0, api.ErrEnd
	}
	return x, end, api.OK
}

// changeCase changes the letters that were not escaped, as they are read.
func (x Token) changeCase(mode int) {
	isEscaped := func(i int) bool { return x.Escaped[i] }
	switch mode {
	case Upcase:
		changed(x.Chars, isEscaped, upcase)
	case Downcase:
		changed(x.Chars, isEscaped, downcase)
	case Invert:
		inverted(x.Chars, isEscaped)
	}
}

// Plain returns the token whose characters are those of a text, none escaped.
func Plain(s string) (Token, api.Errno) {
	if e := textError(s); e != api.OK {
		return Token{}, e
	}
	chars := []rune(s)
	return Token{Chars: chars, Escaped: make([]bool, len(chars))}, api.OK
}

func (x Token) isRight() bool {
	if len(x.Chars) != len(x.Escaped) || len(x.Chars) > api.MaxSource {
		return false
	}
	for _, c := range x.Chars {
		if !utf8.ValidRune(c) {
			return false
		}
	}
	return x.Escapes || !slices.Contains(x.Escaped, true)
}

// Text returns the characters of a token.
func Text(x Token) string {
	if !x.isRight() {
		return ""
	}
	return string(x.Chars)
}

// Dots returns how many dots a token consists of; 0 if it is something else.
func Dots(x Token) int {
	if !x.isRight() || x.Escapes || strings.Trim(string(x.Chars), ".") != "" {
		return 0
	}
	return len(x.Chars)
}

// markers returns the indices of the package markers of a token.
func (x Token) markers() []int {
	var l []int
	for i, c := range x.Chars {
		if c == ':' && !x.Escaped[i] {
			l = append(l, i)
		}
	}
	return l
}

// Split returns the symbol that a token names.
func Split(x Token) (Name, api.Errno) {
	switch {
	case !x.isRight():
		return Name{}, api.ErrArg
	case Dots(x) > 0:
		return Name{}, ErrDots
	}
	marks, last := x.markers(), len(x.Chars)-1
	if len(marks) == 0 {
		return Name{Kind: Symbol, Name: string(x.Chars)}, api.OK
	}
	first, behind := marks[0], marks[len(marks)-1]
	ahead, name := string(x.Chars[:first]), string(x.Chars[behind+1:])
	switch {
	case len(marks) == 1 && first == 0 && (last > 0 || x.Escapes):
		return Name{Kind: Keyword, Name: name}, api.OK
	case first == 0 || behind == last:
		return Name{}, ErrMarker
	case len(marks) == 1:
		return Name{Kind: External, Package: ahead, Name: name}, api.OK
	case len(marks) == 2 && behind == first+1:
		return Name{Kind: Internal, Package: ahead, Name: name}, api.OK
	}
	return Name{}, ErrMarker
}
