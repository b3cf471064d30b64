package forms

import (
	"strconv"
	"strings"
	"unicode/utf8"

	"commonform/api"
)

const (
	maxDimension = 2000
	maxLabel     = 999
)

// Check returns the error of a form.
func Check(f api.Form) api.Errno {
	if e := checkSize(f); e != api.OK {
		return e
	}
	for _, node := range walk(f) {
		if !isRight(node) {
			return api.ErrForm
		}
	}
	return checkLabels(f)
}

// checkSize returns ErrSize for a form with too many nodes, or too deep. It looks at no more nodes than it needs.
func checkSize(f api.Form) api.Errno {
	nodes := 0
	e := api.OK
look:
	for depth := range walk(f) {
		nodes++
		if nodes > api.MaxForm || depth > api.MaxDepth {
			e = api.ErrSize
			break look
		}
	}
	return e
}

// isRight reports whether a node is as the table of forms says.
func isRight(f api.Form) bool {
	if !hasShape(f.Kind, f.Text, f.Home, len(f.Kids)) {
		return false
	}
	switch f.Kind {
	case api.FormCons:
		return f.Kids[len(f.Kids)-1].Kind != api.FormCons
	case api.FormComplex:
		return areParts(f.Kids[0].Kind, f.Kids[1].Kind, f.Kids[1].Text)
	}
	return true
}

// hasShape reports whether a node of a kind may have this text, home, and number of kids.
func hasShape(kind int, text, home string, kids int) bool {
	if !utf8.ValidString(text) || !utf8.ValidString(home) || kind != api.FormSymbol && home != "" {
		return false
	}
	switch kind {
	case api.FormSymbol, api.FormString:
		return kids == 0
	case api.FormInt, api.FormRatio, api.FormSingle, api.FormDouble:
		return kids == 0 && isNumeral(kind, text)
	case api.FormComplex:
		return kids == 2 && text == ""
	case api.FormChar:
		return kids == 0 && utf8.RuneCountInString(text) == 1
	case api.FormBits:
		return kids == 0 && strings.Trim(text, "01") == ""
	case api.FormCons:
		return kids >= 2 && text == ""
	case api.FormVector:
		return text == ""
	case api.FormArray:
		dimensions, ok := parseDimensions(text)
		return ok && product(dimensions) == kids
	case api.FormLabel:
		return kids == 1 && isCount(text, maxLabel)
	case api.FormRef:
		return kids == 0 && isCount(text, maxLabel)
	}
	return false
}

// areParts reports whether the real and the imaginary part of a complex number may be of these kinds.
func areParts(re, im int, text string) bool {
	switch re {
	case api.FormSingle, api.FormDouble:
		return im == re
	case api.FormInt, api.FormRatio:
		return im == api.FormRatio || im == api.FormInt && text != "0"
	}
	return false
}

// isNumeral reports whether the text of a real number is right.
func isNumeral(kind int, text string) bool {
	switch kind {
	case api.FormInt:
		return isInteger(text)
	case api.FormRatio:
		top, bottom, some := strings.Cut(text, "/")
		return some && isInteger(top) && top != "0" && isNatural(bottom) && bottom != "0" && bottom != "1" && !haveDivisor(top, bottom)
	case api.FormSingle:
		return len(text) == 8 && isHex(text)
	}
	return len(text) == 16 && isHex(text)
}

// isInteger reports whether a text has the digits of an integer as they are written.
func isInteger(text string) bool {
	digits, negative := strings.CutPrefix(text, "-")
	return isNatural(digits) && !(negative && digits == "0")
}

// isNatural reports whether a text has decimal digits without a zero ahead of others.
func isNatural(text string) bool {
	return text != "" && strings.Trim(text, "0123456789") == "" && (text[0] != '0' || text == "0")
}

func isHex(text string) bool {
	return strings.Trim(text, "0123456789abcdef") == ""
}

// isCount reports whether a text is that of a number from 0 to a greatest one.
func isCount(text string, greatest int) bool {
	if !isNatural(text) {
		return false
	}
	n, err := strconv.Atoi(text)
	return err == nil && n <= greatest
}

// haveDivisor reports whether two short numbers have a common divisor other than 1.
func haveDivisor(top, bottom string) bool {
	const longest = 18
	top = strings.TrimPrefix(top, "-")
	if len(top) > longest || len(bottom) > longest {
		return false
	}
	m, _ := strconv.Atoi(top)
	n, _ := strconv.Atoi(bottom)
	for n != 0 {
		m, n = n, m%n
	}
	return m != 1
}

// parseDimensions returns the dimensions of the text of an array, and whether they are right.
func parseDimensions(text string) ([]int, bool) {
	if text == "" {
		return nil, true
	}
	words := strings.Split(text, " ")
	if len(words) == 1 || len(words) > MaxRank {
		return nil, false
	}
	var dimensions []int
	for _, word := range words {
		if !isCount(word, maxDimension) {
			return nil, false
		}
		n, _ := strconv.Atoi(word)
		dimensions = append(dimensions, n)
	}
	return dimensions, true
}

// product returns the number of elements of an array, or a number that is greater than any number of kids.
func product(dimensions []int) int {
	const great = 1 << 40
	n := 1
	for _, d := range dimensions {
		if d == 0 {
			return 0
		}
		n = min(n*d, great)
	}
	return n
}

// Dimensions returns the dimensions of an array.
func Dimensions(f api.Form) ([]int, api.Errno) {
	var dimensions []int
	switch f.Kind {
	case api.FormArray:
		dimensions, _ = parseDimensions(f.Text)
	case api.FormVector:
		dimensions = []int{len(f.Kids)}
	case api.FormString:
		dimensions = []int{utf8.RuneCountInString(f.Text)}
	case api.FormBits:
		dimensions = []int{len(f.Text)}
	default:
		return nil, api.ErrArg
	}
	if e := Check(f); e != api.OK {
		return nil, e
	}
	return dimensions, api.OK
}
