package format

import (
	"strings"

	"commonform/api"
	"commonform/float"
	"commonform/integer"
	"commonform/number"
	"commonform/rational"
)

const (
	maxPlaces = 100
	maxScale  = 100
)

// valueOf returns the exact value of a real number.
func valueOf(x api.Form) rational.Ratio {
	exact, _ := number.Rational(x)
	v, _ := rational.Parse(exact.Text, 10)
	return v
}

// scaled returns a number times a power of ten.
func scaled(v rational.Ratio, scale int) rational.Ratio {
	power, _ := rational.Of(integer.New(10)).Power(scale)
	return v.Mul(power)
}

// fixed performs ~F.
func (r *run) fixed(c *call) ending {
	width := c.size(0)
	places := c.number(-1, 0, maxPlaces)
	scale := c.number(0, -maxScale, maxScale)
	over := c.character("")
	pad := c.character(" ")
	x := c.takeReal()
	v := scaled(valueOf(x), scale)
	var text string
	if places >= 0 {
		text = sure(float.Places(v, places))
	} else {
		text = shortest(v, formatOf(x))
	}
	if c.at && !strings.HasPrefix(text, "-") {
		text = "+" + text
	}
	if width > 0 && len(text) > width {
		text = withoutZero(text)
	}
	if width > 0 && len(text) > width && over != "" {
		text = strings.Repeat(over, width)
	}
	r.out.pads(pad, width-len(text))
	r.out.add(text)
	return goOn
}

// formatOf returns the format of the floats in which a number is written.
func formatOf(x api.Form) float.Format {
	if x.Kind == api.FormDouble {
		return float.Double
	}
	return float.Single
}

// shortest returns the shortest text of the float nearest to a number.
func shortest(v rational.Ratio, f float.Format) string {
	x, e := float.Nearest(f, v)
	if e != api.OK {
		panic(api.ErrRange)
	}
	digits, point, _ := float.Shortest(f, x)
	text := pointed(digits, point)
	if near, _ := float.Value(f, x); near.Sign() < 0 {
		return "-" + text
	}
	return text
}

// pointed returns the number 0.digits times 10^point with a point.
func pointed(digits string, point int) string {
	switch n := len(digits); {
	case digits == "0":
		return "0.0"
	case point <= 0:
		return "0." + strings.Repeat("0", -point) + digits
	case point >= n:
		return digits + strings.Repeat("0", point-n) + ".0"
	}
	return digits[:point] + "." + digits[point:]
}

// withoutZero returns a text without a 0 that stands alone in front of the point, if there is a digit behind it.
func withoutZero(text string) string {
	sign := ""
	if text[0] == '-' || text[0] == '+' {
		sign, text = text[:1], text[1:]
	}
	if strings.HasPrefix(text, "0.") && text != "0." {
		text = text[1:]
	}
	return sign + text
}

// money performs ~$.
func (r *run) money(c *call) ending {
	places := c.number(2, 0, maxPlaces)
	least := c.number(1, 0, maxPlaces)
	width := c.size(0)
	pad := c.character(" ")
	x := c.takeReal()
	text, isBelow := strings.CutPrefix(sure(float.Places(valueOf(x), places)), "-")
	sign := ""
	if isBelow {
		sign = "-"
	} else if c.at {
		sign = "+"
	}
	ahead := strings.IndexByte(text, '.')
	text = strings.Repeat("0", max(0, least-ahead)) + text
	pads := strings.Repeat(pad, max(0, width-len(sign)-len(text)))
	if c.colon {
		r.out.add(sign + pads + text)
	} else {
		r.out.add(pads + sign + text)
	}
	return goOn
}
