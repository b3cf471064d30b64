package reader

import (
	"iter"
	"slices"
	"strconv"
	"strings"
	"unicode/utf8"

	"commonform/api"
	"commonform/forms"
)

// Character returns the character with a name.
func Character(name string) (rune, bool) {
	small := strings.Map(func(c rune) rune {
		if c >= 'A' && c <= 'Z' {
			return c + 'a' - 'A'
		}
		return c
	}, name)
	switch small {
	case "null":
		return 0, true
	case "backspace":
		return 8, true
	case "tab":
		return 9, true
	case "newline", "linefeed":
		return 10, true
	case "page":
		return 12, true
	case "return":
		return 13, true
	case "space":
		return 32, true
	case "rubout":
		return 127, true
	}
	digits, is := strings.CutPrefix(small, "u")
	if !is || len(digits) < 4 || len(digits) > 6 || strings.Trim(digits, "0123456789abcdef") != "" {
		return 0, false
	}
	n, _ := strconv.ParseInt(digits, 16, 32)
	if c := rune(n); utf8.ValidRune(c) {
		return c, true
	}
	return 0, false
}

// oneOf returns a function that reports whether a name is one of some.
func oneOf(names []string) func(name string) bool {
	set := map[string]bool{}
	for _, name := range names {
		set[name] = true
	}
	return func(name string) bool { return set[name] }
}

// Feature reports whether features fulfil an expression.
func Feature(f api.Form, features []string) (bool, api.Errno) {
	return feature(f, oneOf(features))
}

func feature(f api.Form, has func(name string) bool) (bool, api.Errno) {
	if f.Kind == api.FormSymbol && f.Home == "KEYWORD" && len(f.Kids) == 0 {
		return has(f.Text), api.OK
	}
	last := len(f.Kids) - 1
	if f.Kind != api.FormCons || last < 1 || !forms.IsNil(f.Kids[last]) {
		return false, api.ErrForm
	}
	operator, rest := f.Kids[0], f.Kids[1:last]
	isNot, isAnd, isOr := forms.Is(operator, "KEYWORD", "NOT"), forms.Is(operator, "KEYWORD", "AND"), forms.Is(operator, "KEYWORD", "OR")
	if !isNot && !isAnd && !isOr || isNot && len(rest) != 1 {
		return false, api.ErrForm
	}
	all, some := true, false
	for _, x := range rest {
		is, e := feature(x, has)
		if e != api.OK {
			return false, e
		}
		all = all && is
		some = some || is
	}
	switch {
	case isNot:
		return !all, api.OK
	case isAnd:
		return all, api.OK
	}
	return some, api.OK
}

// length returns how many elements contents have, and whether they have elements at all.
func length(f api.Form) (int, bool) {
	switch f.Kind {
	case api.FormSymbol:
		return 0, forms.IsNil(f)
	case api.FormCons:
		last := len(f.Kids) - 1
		return last, forms.IsNil(f.Kids[last])
	case api.FormVector:
		return len(f.Kids), true
	case api.FormString:
		return utf8.RuneCountInString(f.Text), true
	case api.FormBits:
		return len(f.Text), true
	}
	return 0, false
}

// elements yields the elements of contents that have some.
func elements(f api.Form) iter.Seq[api.Form] {
	kind := api.FormChar
	switch f.Kind {
	case api.FormCons:
		return slices.Values(f.Kids[:len(f.Kids)-1])
	case api.FormVector:
		return slices.Values(f.Kids)
	case api.FormBits:
		kind = api.FormInt
	case api.FormSymbol:
		return slices.Values([]api.Form(nil))
	}
	return func(yield func(api.Form) bool) {
		for _, c := range f.Text {
			if !yield(api.Form{Kind: kind, Text: string(c)}) {
				return
			}
		}
	}
}

// Array returns the array with given contents.
func Array(rank int, contents api.Form) (api.Form, api.Errno) {
	if e := forms.Check(contents); e == api.ErrSize || e == api.ErrForm {
		return api.Form{}, e
	}
	if rank < 0 || rank > forms.MaxRank {
		return api.Form{}, api.ErrArg
	}
	rows := []api.Form{contents}
	var dimensions []string
	for range rank {
		n, e := breadth(rows)
		if e != api.OK {
			return api.Form{}, e
		}
		dimensions = append(dimensions, strconv.Itoa(n))
		if n*len(rows) > api.MaxForm {
			return api.Form{}, tooMany(rank - len(dimensions))
		}
		var next []api.Form
		for _, x := range rows {
			next = slices.AppendSeq(next, elements(x))
		}
		rows = next
	}
	for i, x := range rows {
		rows[i] = copied(x)
	}
	if rank == 1 {
		return api.Form{Kind: api.FormVector, Kids: rows}, api.OK
	}
	return api.Form{Kind: api.FormArray, Text: strings.Join(dimensions, " "), Kids: rows}, api.OK
}

// breadth returns how many elements each one of some contents has; 0 if there are no contents.
func breadth(rows []api.Form) (int, api.Errno) {
	n := 0
	for i, x := range rows {
		k, some := length(x)
		if !some || i > 0 && k != n {
			return 0, ErrShape
		}
		n = k
	}
	return n, api.OK
}

// tooMany returns the error of more elements than an array may have. There are never so many but in strings and bit vectors, whose elements have none themselves: they do not fit if further dimensions are to come.
func tooMany(further int) api.Errno {
	if further > 0 {
		return ErrShape
	}
	return api.ErrSize
}
