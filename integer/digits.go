package integer

import (
	"slices"

	"commonform/api"
)

// A chunk has as many digits of a radix as fit into one limb: numbers are divided and multiplied by its power, and not digit by digit.
type chunk struct {
	digits int
	power  uint32
}

func chunkOf(radix int) chunk {
	c := chunk{0, 1}
	for uint64(c.power)*uint64(radix) <= limbMask {
		c.power *= uint32(radix)
		c.digits++
	}
	return c
}

// Text returns the digits of x.
func (x Int) Text(radix int) (string, api.Errno) {
	if !isRadix(radix) {
		return "", api.ErrArg
	}
	if x.Sign() == 0 {
		return "0", api.OK
	}
	text := backwards(x.limbs, radix)
	for text[len(text)-1] == '0' {
		text = text[:len(text)-1]
	}
	if x.negative {
		text = append(text, '-')
	}
	slices.Reverse(text)
	return string(text), api.OK
}

// backwards returns the digits, the last one first, perhaps with zeros behind the first one of the number.
func backwards(x []uint32, radix int) []byte {
	const digits = "0123456789ABCDEFGHIJKLMNOPQRSTUVWXYZ"
	c := chunkOf(radix)
	var text []byte
	for len(x) > 0 {
		q, rest := divideByLimb(x, c.power)
		x = q
		for range c.digits {
			text = append(text, digits[rest%uint32(radix)])
			rest /= uint32(radix)
		}
	}
	return text
}

func isRadix(radix int) bool {
	return radix >= 2 && radix <= 36
}

// Parse returns the integer with digits.
func Parse(s string, radix int) (Int, api.Errno) {
	switch {
	case !isRadix(radix):
		return Int{}, api.ErrArg
	case len(s) > api.MaxDigits:
		return Int{}, api.ErrLarge
	}
	negative := s != "" && s[0] == '-'
	if negative || s != "" && s[0] == '+' {
		s = s[1:]
	}
	if s == "" {
		return Int{}, api.ErrForm
	}
	limbs, ok := parseDigits(s, radix)
	if !ok {
		return Int{}, api.ErrForm
	}
	return signed(negative, limbs), api.OK
}

// parseDigits returns the number of digits, and whether all are digits of the radix.
func parseDigits(s string, radix int) ([]uint32, bool) {
	c := chunkOf(radix)
	var limbs []uint32
	for len(s) > 0 {
		// The first chunk is the short one, so that all others are multiplied by the same power.
		n := (len(s)-1)%c.digits + 1
		part := uint32(0)
		for i := range n {
			digit := digitValue(s[i])
			if digit >= radix {
				return nil, false
			}
			part = part*uint32(radix) + uint32(digit)
		}
		s = s[n:]
		limbs = multiplyAdd(limbs, c.power, part)
	}
	return limbs, true
}

// digitValue returns the value of a digit of the radix 36, and 36 for any other byte.
func digitValue(c byte) int {
	switch {
	case c >= '0' && c <= '9':
		return int(c - '0')
	case c >= 'A' && c <= 'Z':
		return int(c-'A') + 10
	case c >= 'a' && c <= 'z':
		return int(c-'a') + 10
	}
	return 36
}

// multiplyAdd takes over x, and returns it times the factor plus the addend.
func multiplyAdd(x []uint32, factor, addend uint32) []uint32 {
	carry := uint64(addend)
	for i := range x {
		carry += uint64(x[i]) * uint64(factor)
		x[i] = uint32(carry)
		carry >>= limbBits
	}
	if carry > 0 {
		x = append(x, uint32(carry))
	}
	return x
}
