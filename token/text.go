package token

import (
	"iter"
	"strings"
	"unicode/utf8"

	"commonform/api"
)

// textError returns the error of a text.
func textError(s string) api.Errno {
	switch {
	case len(s) > api.MaxSource:
		return api.ErrSize
	case !utf8.ValidString(s):
		return api.ErrForm
	}
	return api.OK
}

// isPlace reports whether a number is a place in a text without an error.
func isPlace(s string, at int) bool {
	return at == len(s) || at >= 0 && at < len(s) && utf8.RuneStart(s[at])
}

// check returns the error of a readtable, a text, and a place in it.
func check(t Table, s string, at int) api.Errno {
	if e := Check(t); e != api.OK {
		return e
	}
	if e := textError(s); e != api.OK {
		return e
	}
	if !isPlace(s, at) {
		return api.ErrArg
	}
	return api.OK
}

// characters yields the characters of a text from a place on, each with its place.
func characters(s string, at int) iter.Seq2[int, rune] {
	return func(yield func(int, rune) bool) {
		for i, c := range s[at:] {
			if !yield(at+i, c) {
				return
			}
		}
	}
}

// Where returns the place of a byte of a text.
func Where(s string, at int) (Place, api.Errno) {
	if e := check(Table{}, s, at); e != api.OK {
		return Place{}, e
	}
	ahead := s[:at]
	line := strings.Count(ahead, "\n") + 1
	column := utf8.RuneCountInString(ahead[strings.LastIndexByte(ahead, '\n')+1:]) + 1
	return Place{line, column}, api.OK
}

func isSmall(c rune) bool {
	return c >= 'a' && c <= 'z'
}

func isGreat(c rune) bool {
	return c >= 'A' && c <= 'Z'
}

func upcase(c rune) rune {
	if isSmall(c) {
		return c - 'a' + 'A'
	}
	return c
}

func downcase(c rune) rune {
	if isGreat(c) {
		return c - 'A' + 'a'
	}
	return c
}

// inverted changes the letters among some characters, but for those that are kept: all of them if they are of one case, and otherwise none.
func inverted(chars []rune, keep func(i int) bool) {
	small, great := false, false
	for i, c := range chars {
		if !keep(i) {
			small = small || isSmall(c)
			great = great || isGreat(c)
		}
	}
	if small && great {
		return
	}
	change := upcase
	if great {
		change = downcase
	}
	changed(chars, keep, change)
}

func changed(chars []rune, keep func(i int) bool, change func(rune) rune) {
	for i, c := range chars {
		if !keep(i) {
			chars[i] = change(c)
		}
	}
}
