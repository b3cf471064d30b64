package format

import (
	"strconv"

	"commonform/api"
)

// jump performs ~*.
func (r *run) jump(c *call) ending {
	a := c.arguments
	switch {
	case c.at:
		a.move(c.size(0))
	case c.colon:
		n := c.size(1)
		a.move(a.next - n)
	default:
		n := c.size(1)
		a.move(a.next + n)
	}
	return goOn
}

// recur performs ~?.
func (r *run) recur(c *call) ending {
	control := c.takeText()
	a := c.arguments
	if !c.at {
		a = &arguments{list: c.takeList()}
	}
	if r.nested >= maxNested {
		panic(api.ErrFull)
	}
	r.nested++
	r.perform(directives(control), a)
	r.nested--
	return goOn
}

// escape performs ~^.
func (r *run) escape(c *call) ending {
	switch {
	case !c.isMet():
		return goOn
	case c.colon:
		return endsAll
	}
	return ends
}

// isMet reports whether the condition of a ~^ holds.
func (c *call) isMet() bool {
	var n []int
	for range c.parameters {
		n = append(n, c.number(0, -maxTaken, maxTaken))
	}
	switch len(n) {
	case 1:
		return n[0] == 0
	case 2:
		return n[0] == n[1]
	case 3:
		return n[0] <= n[1] && n[1] <= n[2]
	}
	if c.colon {
		return c.arguments.lists.left() == 0
	}
	return c.arguments.left() == 0
}

// choose performs ~[.
func (r *run) choose(c *call) ending {
	part := c.number(-1, 0, maxNumber)
	a := c.arguments
	switch {
	case c.at:
		if isNil(c.take()) {
			return goOn
		}
		a.move(a.next - 1)
		part = 0
	case c.colon:
		part = 1
		if isNil(c.take()) {
			part = 0
		}
	case part < 0:
		part = partOf(c.take())
	}
	last := len(c.parts) - 1
	if part < 0 || part > last {
		if !c.otherwise {
			return goOn
		}
		part = last
	}
	return r.perform(c.parts[part], a)
}

// partOf returns the number of a part that an argument is; -1 for an integer that is none.
func partOf(x api.Form) int {
	if !isInteger(x) {
		panic(api.ErrType)
	}
	n, err := strconv.Atoi(x.Text)
	if err != nil {
		return -1
	}
	return n
}

// iterate performs ~{.
func (r *run) iterate(c *call) ending {
	most := c.size(-1)
	body := c.parts[0]
	control := ""
	if c.bare {
		control = c.takeText()
	}
	outer := c.arguments
	inner := &arguments{}
	if c.at {
		inner.list = outer.list[outer.next:]
	} else {
		inner.list = c.takeList()
	}
	if c.bare {
		body = directives(control)
	}
	for n := 0; n != most && (inner.left() > 0 || n == 0 && c.once); n++ {
		r.count()
		if r.once(c, body, inner) {
			break
		}
	}
	if c.at {
		outer.next += inner.next
	}
	return goOn
}

// once performs what stands in ~{ one time, and reports whether that was the last one.
func (r *run) once(c *call, body []directive, inner *arguments) bool {
	if !c.colon {
		return r.perform(body, inner) != goOn
	}
	one := &arguments{lists: inner}
	if inner.left() > 0 {
		one.list = elements(inner.take())
	}
	return r.perform(body, one) == endsAll
}

// directives returns those of a control string that is an argument.
func directives(control string) []directive {
	l, e := read(control)
	if e != api.OK {
		panic(api.ErrForm)
	}
	return l
}
