package format

import (
	"strings"

	"commonform/api"
	"commonform/integer"
)

// sure returns a text, or panics with the error of it.
func sure(s string, e api.Errno) string {
	if e != api.OK {
		panic(e)
	}
	return s
}

func (r *run) aesthetic(c *call) ending {
	return r.data(c, false)
}

func (r *run) standard(c *call) ending {
	return r.data(c, true)
}

// data performs ~A and ~S.
func (r *run) data(c *call, escape bool) ending {
	width := c.size(0)
	step := c.number(1, 1, maxNumber)
	least := c.size(0)
	pad := c.character(" ")
	x := c.take()
	text := "()"
	if !c.colon || !isNil(x) {
		text = printed(x, escape)
	}
	pads := strings.Repeat(pad, widened(width, len(text)+least, step)-len(text))
	if c.at {
		r.out.add(pads + text)
	} else {
		r.out.add(text + pads)
	}
	return goOn
}

func (r *run) decimal(c *call) ending {
	return r.integer(c, 10)
}

func (r *run) binary(c *call) ending {
	return r.integer(c, 2)
}

func (r *run) octal(c *call) ending {
	return r.integer(c, 8)
}

func (r *run) hexadecimal(c *call) ending {
	return r.integer(c, 16)
}

// integer performs ~D and its like.
func (r *run) integer(c *call, radix int) ending {
	width := c.size(0)
	pad := c.character(" ")
	comma := c.character(",")
	interval := c.number(3, 1, maxNumber)
	x := c.take()
	text := ""
	if x.Kind == api.FormInt {
		text = digits(x, radix)
		if c.at && !strings.HasPrefix(text, "-") {
			text = "+" + text
		}
		if c.colon {
			text, _ = Grouped(text, comma, interval)
		}
	} else {
		text = printed(x, false)
	}
	r.out.pads(pad, width-len(text))
	r.out.add(text)
	return goOn
}

// digits returns the text of an integer in a radix.
func digits(x api.Form, radix int) string {
	if !isInteger(x) {
		panic(api.ErrType)
	}
	n, _ := integer.Parse(x.Text, 10)
	text, _ := n.Text(radix)
	return text
}

// radix performs ~R.
func (r *run) radix(c *call) ending {
	if len(c.parameters) > 0 {
		return r.integer(c, c.number(10, 2, 36))
	}
	x := c.take()
	switch {
	case c.at:
		r.out.add(sure(Roman(x, c.colon)))
	case c.colon:
		r.out.add(sure(Ordinal(x)))
	default:
		r.out.add(sure(Cardinal(x)))
	}
	return goOn
}

// character performs ~C.
func (r *run) character(c *call) ending {
	x := c.take()
	if x.Kind != api.FormChar {
		panic(api.ErrType)
	}
	text := x.Text
	if c.at {
		text = printed(x, true)
	} else if c.colon {
		text = characterName(text)
	}
	r.out.add(text)
	return goOn
}

// characterName returns the name of a character that has one, and otherwise its text.
func characterName(text string) string {
	switch text {
	case " ":
		return "Space"
	case "\n":
		return "Newline"
	case "\t":
		return "Tab"
	case "\f":
		return "Page"
	case "\x7f":
		return "Rubout"
	case "\b":
		return "Backspace"
	case "\r":
		return "Return"
	case "\x00":
		return "Null"
	}
	return text
}

// plural performs ~P.
func (r *run) plural(c *call) ending {
	if c.colon {
		c.arguments.move(c.arguments.next - 1)
	}
	x := c.take()
	isOne := x.Kind == api.FormInt && x.Text == "1"
	switch {
	case c.at && isOne:
		r.out.add("y")
	case c.at:
		r.out.add("ies")
	case !isOne:
		r.out.add("s")
	}
	return goOn
}
