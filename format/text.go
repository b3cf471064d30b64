package format

import (
	"strings"

	"commonform/api"
)

const maxNumber = 1000 // of a parameter, where nothing else is said

func isDigit(c byte) bool {
	return c >= '0' && c <= '9'
}

func isSmall(c byte) bool {
	return c >= 'a' && c <= 'z'
}

func isGreat(c byte) bool {
	return c >= 'A' && c <= 'Z'
}

// great returns the great letter of a small one.
func great(c byte) byte {
	if isSmall(c) {
		return c - 'a' + 'A'
	}
	return c
}

// small returns the small letter of a great one.
func small(c byte) byte {
	if isGreat(c) {
		return c - 'A' + 'a'
	}
	return c
}

// Grouped returns digits with commas between groups of them.
func Grouped(digits string, comma string, interval int) (string, api.Errno) {
	if interval < 1 || interval > maxNumber {
		return "", api.ErrArg
	}
	b := strings.Builder{}
	if strings.HasPrefix(digits, "-") || strings.HasPrefix(digits, "+") {
		b.WriteByte(digits[0])
		digits = digits[1:]
	}
	for i := range len(digits) {
		if i > 0 && (len(digits)-i)%interval == 0 {
			b.WriteString(comma)
		}
		b.WriteByte(digits[i])
	}
	return b.String(), api.OK
}

// Justified returns texts that are spread over a width.
func Justified(texts []string, width, step, least int, pad string, front, back bool) (string, api.Errno) {
	if e := checkTexts(texts); e != api.OK {
		return "", e
	}
	switch {
	case len(pad) != 1 || step < 1 || step > maxNumber:
		return "", api.ErrArg
	case width < 0 || width > maxNumber || least < 0 || least > maxNumber:
		return "", api.ErrRange
	}
	last := len(texts) // the gap behind the last text; that ahead of the text i is the gap i
	hasGap := func(i int) bool {
		switch i {
		case 0:
			return front || last == 1 && !back
		case last:
			return back
		}
		return true
	}
	gaps, length := 0, len(strings.Join(texts, ""))
	for i := range last + 1 {
		if hasGap(i) {
			gaps++
		}
	}
	over := widened(length+gaps*least, width, step) - length
	b := strings.Builder{}
	for i := range last + 1 {
		if hasGap(i) {
			n := (over + gaps - 1) / gaps // the first gaps get one more, until what is left is even
			b.WriteString(strings.Repeat(pad, n))
			over -= n
			gaps--
		}
		if i < last {
			b.WriteString(texts[i])
		}
	}
	return b.String(), api.OK
}

// checkTexts returns the error of texts that are to be justified.
func checkTexts(texts []string) api.Errno {
	const maxTexts = 100
	if len(texts) < 1 || len(texts) > maxTexts {
		return api.ErrSize
	}
	for _, s := range texts {
		if len(s) > api.MaxSource {
			return api.ErrSize
		}
	}
	return api.OK
}

// widened returns the least number from + i step, with i from 0 on, that is not below n.
func widened(n, from, step int) int {
	return from + max(0, n-from+step-1)/step*step
}

// Cased returns a text with letters changed.
func Cased(s string, colon, at bool) (string, api.Errno) {
	if len(s) > api.MaxOutput {
		return "", api.ErrSize
	}
	b := []byte(s)
	isDone := false // the letter that is to be great stands ahead
	for i, c := range b {
		isLetter := isSmall(c) || isGreat(c)
		switch {
		case colon && at:
			b[i] = great(c)
		case (colon || at) && isLetter && !isDone:
			b[i] = great(c)
			isDone = true
		default:
			b[i] = small(c)
		}
		if colon && !isLetter && !isDigit(c) {
			isDone = false
		}
	}
	return string(b), api.OK
}
