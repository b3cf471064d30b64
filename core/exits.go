package core

import (
	"commonform/api"
	"commonform/forms"
)

func (c *converter) block(l []api.Form, s *scope) api.Core {
	need(counted(l, 1, -1)[0].Kind == api.FormSymbol)
	n := c.fresh(blocks)
	inner := c.progn(l[1:], s.with(block, l[0], n))
	return api.Core{Op: api.CoreBlock, N: n, Kids: []api.Core{inner}}
}

func (c *converter) returnFrom(l []api.Form, s *scope) api.Core {
	need(counted(l, 1, 2)[0].Kind == api.FormSymbol)
	n, ok := s.numbered(block, l[0])
	if !ok {
		refuse(ErrScope)
	}
	value := forms.Nil()
	if len(l) == 2 {
		value = l[1]
	}
	return api.Core{Op: api.CoreReturn, N: n, Kids: []api.Core{c.form(value, s)}}
}

// isTag reports whether a form in a TAGBODY is a tag.
func isTag(f api.Form) bool { return f.Kind == api.FormSymbol || f.Kind == api.FormInt }

// segments divides the forms of a TAGBODY at its tags.
func segments(l []api.Form) (tags []api.Form, parts [][]api.Form) {
	parts = [][]api.Form{nil}
	met := map[name]bool{}
	for _, f := range l {
		last := len(parts) - 1
		if !isTag(f) {
			parts[last] = append(parts[last], f)
			continue
		}
		if met[nameOf(f)] {
			refuse(api.ErrTwice)
		}
		met[nameOf(f)] = true
		tags = append(tags, f)
		parts = append(parts, nil)
	}
	return tags, parts
}

func (c *converter) tagbody(l []api.Form, s *scope) api.Core {
	made := node(api.CoreTagbody)
	names, parts := segments(l)
	for _, f := range names {
		n := c.fresh(tags)
		made.Vars = append(made.Vars, n)
		s = s.with(tag, f, n)
	}
	for _, part := range parts {
		made.Kids = append(made.Kids, c.progn(part, s))
	}
	return made
}

func (c *converter) goTo(l []api.Form, s *scope) api.Core {
	need(isTag(counted(l, 1, 1)[0]))
	n, ok := s.numbered(tag, l[0])
	if !ok {
		refuse(ErrScope)
	}
	return api.Core{Op: api.CoreGo, N: n}
}

// withRest converts so many forms, and those behind them as one.
func (c *converter) withRest(op, first int, l []api.Form, s *scope) api.Core {
	kids := c.forms(counted(l, first, -1)[:first], s)
	return node(op, append(kids, c.progn(l[first:], s))...)
}

func (c *converter) catch(l []api.Form, s *scope) api.Core {
	return c.withRest(api.CoreCatch, 1, l, s)
}

func (c *converter) throw(l []api.Form, s *scope) api.Core {
	return node(api.CoreThrow, c.forms(counted(l, 2, 2), s)...)
}

func (c *converter) protect(l []api.Form, s *scope) api.Core {
	return c.withRest(api.CoreProtect, 1, l, s)
}

func (c *converter) progv(l []api.Form, s *scope) api.Core {
	return c.withRest(api.CoreProgv, 2, l, s)
}

func (c *converter) valuesCall(l []api.Form, s *scope) api.Core {
	return node(api.CoreValuesCall, c.forms(counted(l, 1, -1), s)...)
}

func (c *converter) valuesFirst(l []api.Form, s *scope) api.Core {
	return node(api.CoreValuesFirst, c.forms(counted(l, 1, -1), s)...)
}

func (c *converter) the(l []api.Form, s *scope) api.Core {
	return c.form(counted(l, 2, 2)[1], s)
}

func (c *converter) loadTimeValue(l []api.Form, s *scope) api.Core {
	return c.form(counted(l, 1, 2)[0], s)
}
