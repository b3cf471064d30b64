package format

import "commonform/api"

// times puts out a character as often as the parameter says.
func (r *run) times(c *call, character string) ending {
	r.out.pads(character, c.size(1))
	return goOn
}

func (r *run) lines(c *call) ending {
	return r.times(c, "\n")
}

func (r *run) pages(c *call) ending {
	return r.times(c, "\f")
}

func (r *run) tildes(c *call) ending {
	return r.times(c, "~")
}

// fresh performs ~&.
func (r *run) fresh(c *call) ending {
	n := c.size(1)
	if n > 0 && r.out.column == 0 {
		n--
	}
	r.out.pads("\n", n)
	return goOn
}

// newline performs ~ and a line feed.
func (r *run) newline(c *call) ending {
	if c.at {
		r.out.add("\n")
	}
	return goOn
}

// tabulate performs ~T.
func (r *run) tabulate(c *call) ending {
	first := c.size(1)
	step := c.size(1)
	column := r.out.column
	switch {
	case c.at:
		to := column + first
		if step > 0 {
			to = widened(to, 0, step)
		}
		r.out.pads(" ", to-column)
	case column < first:
		r.out.pads(" ", first-column)
	case step > 0:
		r.out.pads(" ", widened(column+1, first, step)-column)
	}
	return goOn
}

// cased performs ~(.
func (r *run) cased(c *call) ending {
	outer := r.out
	inner := &writer{column: outer.column, ahead: outer.size()}
	r.out = inner
	end := r.perform(c.parts[0], c.arguments)
	r.out = outer
	text, _ := Cased(inner.String(), c.colon, c.at)
	r.out.add(text)
	return end
}

// justify performs ~<.
func (r *run) justify(c *call) ending {
	width := c.size(0)
	step := c.number(1, 1, maxNumber)
	least := c.size(0)
	pad := c.character(" ")
	outer := r.out
	var texts []string
	for _, part := range c.parts {
		r.count()
		inner := &writer{column: outer.column}
		r.out = inner
		if r.perform(part, c.arguments) != goOn {
			break
		}
		texts = append(texts, inner.String())
	}
	r.out = outer
	if len(texts) == 0 {
		return goOn
	}
	text, e := Justified(texts, width, step, least, pad, c.colon, c.at)
	if e != api.OK {
		panic(api.ErrFull)
	}
	r.out.add(text)
	return goOn
}
