package format

import (
	"slices"
	"strconv"
	"strings"

	"commonform/api"
	"commonform/number"
)

// The words of English numbers.
var (
	units  = [...]string{"", "one", "two", "three", "four", "five", "six", "seven", "eight", "nine", "ten", "eleven", "twelve", "thirteen", "fourteen", "fifteen", "sixteen", "seventeen", "eighteen", "nineteen"}
	tens   = [...]string{"", "", "twenty", "thirty", "forty", "fifty", "sixty", "seventy", "eighty", "ninety"}
	groups = [...]string{"", "thousand", "million", "billion", "trillion", "quadrillion", "quintillion", "sextillion"}
)

const groupDigits = 3

// isInteger reports whether a form is an integer of layer 5.
func isInteger(x api.Form) bool {
	return x.Kind == api.FormInt && number.Check(x) == api.OK
}

// Cardinal returns an integer in English words.
func Cardinal(x api.Form) (string, api.Errno) {
	if !isInteger(x) {
		return "", api.ErrType
	}
	digits, isBelow := strings.CutPrefix(x.Text, "-")
	switch {
	case len(digits) > len(groups)*groupDigits:
		return "", api.ErrRange
	case digits == "0":
		return "zero", api.OK
	}
	var words []string
	if isBelow {
		words = append(words, "minus")
	}
	for len(digits) > 0 {
		behind := (len(digits) - 1) / groupDigits
		n, _ := strconv.Atoi(digits[:len(digits)-behind*groupDigits])
		digits = digits[len(digits)-behind*groupDigits:]
		if n > 0 {
			words = append(words, hundreds(n)...)
			words = append(words, groups[behind])
		}
	}
	return strings.TrimSuffix(strings.Join(words, " "), " "), api.OK
}

// hundreds returns the words of a number from 1 to 999.
func hundreds(n int) []string {
	var words []string
	if n >= 100 {
		words = append(words, units[n/100], "hundred")
		n %= 100
	}
	switch {
	case n == 0:
	case n < len(units):
		words = append(words, units[n])
	case n%10 == 0:
		words = append(words, tens[n/10])
	default:
		words = append(words, tens[n/10]+"-"+units[n%10])
	}
	return words
}

// Ordinal returns an integer as an English ordinal number.
func Ordinal(x api.Form) (string, api.Errno) {
	words, e := Cardinal(x)
	if e != api.OK {
		return "", e
	}
	last := strings.LastIndexAny(words, " -") + 1
	return words[:last] + ordinal(words[last:]), api.OK
}

// ordinal returns the ordinal number of a word.
func ordinal(word string) string {
	cardinals := [...]string{"one", "two", "three", "five", "eight", "nine", "twelve"}
	ordinals := [...]string{"first", "second", "third", "fifth", "eighth", "ninth", "twelfth"}
	if i := slices.Index(cardinals[:], word); i >= 0 {
		return ordinals[i]
	}
	if stem, is := strings.CutSuffix(word, "y"); is {
		return stem + "ieth"
	}
	return word + "th"
}

// Roman returns an integer in Roman numerals.
func Roman(x api.Form, old bool) (string, api.Errno) {
	if !isInteger(x) {
		return "", api.ErrType
	}
	most := 3999
	if old {
		most = 4999
	}
	n, err := strconv.Atoi(x.Text)
	if err != nil || n < 1 || n > most {
		return "", api.ErrRange
	}
	b := strings.Builder{}
	for _, row := range [...]struct {
		value   int
		letters string
	}{{1000, "M"}, {900, "CM"}, {500, "D"}, {400, "CD"}, {100, "C"}, {90, "XC"}, {50, "L"}, {40, "XL"}, {10, "X"}, {9, "IX"}, {5, "V"}, {4, "IV"}, {1, "I"}} {
		if old && len(row.letters) > 1 {
			continue
		}
		b.WriteString(strings.Repeat(row.letters, n/row.value))
		n %= row.value
	}
	return b.String(), api.OK
}
