package core

import (
	"slices"

	"commonform/api"
	"commonform/forms"
)

// renumber returns a tree whose numbers are those that f tells for each of them.
func renumber(c api.Core, f func(n int) int) api.Core {
	again := api.Core{Op: c.Op, N: c.N, Syms: slices.Clone(c.Syms), Data: copiedForm(c.Data)}
	if _, ok := numberingOf(c.Op); ok {
		again.N = f(c.N)
	}
	for _, n := range c.Vars {
		again.Vars = append(again.Vars, f(n))
	}
	for _, p := range c.Pars {
		p.Var = f(p.Var)
		if p.Given != none {
			p.Given = f(p.Given)
		}
		again.Pars = append(again.Pars, p)
	}
	for _, k := range c.Kids {
		again.Kids = append(again.Kids, renumber(k, f))
	}
	return again
}

// numberingOf tells what N is the number of.
func numberingOf(op int) (int, bool) {
	switch op {
	case api.CoreVar, api.CoreSet:
		return variables, true
	case api.CoreBlock, api.CoreReturn:
		return blocks, true
	case api.CoreGo:
		return tags, true
	}
	return 0, false
}

// Renamed returns a tree with greater numbers.
func Renamed(c api.Core, by int) (api.Core, api.Errno) {
	if Check(c) != api.OK {
		return api.Core{}, api.ErrForm
	}
	fits := true
	again := renumber(c, func(n int) int {
		n += by
		fits = fits && n >= 0 && n <= greatest
		return n
	})
	if !fits {
		return api.Core{}, api.ErrRange
	}
	return again, api.OK
}

// A pairing has for each number of one tree that of another one, and the other way round.
type pairing struct {
	to, from [numberings]map[int]int
}

// Same reports whether two trees differ in numbers alone.
func Same(a, b api.Core) bool {
	if Check(a) != api.OK || Check(b) != api.OK {
		return false
	}
	p := &pairing{}
	for i := range numberings {
		p.to[i], p.from[i] = map[int]int{}, map[int]int{}
	}
	return p.nodes(a, b)
}

// pair reports whether two numbers stand for one another everywhere so far.
func (p *pairing) pair(numbering, n, m int) bool {
	to, met := p.to[numbering][n]
	from, back := p.from[numbering][m]
	if !met && !back {
		p.to[numbering][n], p.from[numbering][m] = m, n
		return true
	}
	return met && back && to == m && from == n
}

func (p *pairing) nodes(a, b api.Core) bool {
	if a.Op != b.Op || len(a.Vars) != len(b.Vars) || len(a.Kids) != len(b.Kids) {
		return false
	}
	if !forms.Equal(a.Data, b.Data) || !slices.EqualFunc(a.Syms, b.Syms, forms.Equal) || !slices.EqualFunc(a.Pars, b.Pars, p.parameters) {
		return false
	}
	numbering, ok := numberingOf(a.Op)
	if ok && !p.pair(numbering, a.N, b.N) || !ok && a.N != b.N {
		return false
	}
	if a.Op == api.CoreTagbody {
		numbering = tags
	} else {
		numbering = variables
	}
	for i, n := range a.Vars {
		if !p.pair(numbering, n, b.Vars[i]) {
			return false
		}
	}
	for i, k := range a.Kids {
		if !p.nodes(k, b.Kids[i]) {
			return false
		}
	}
	return true
}

func (p *pairing) parameters(a, b api.Param) bool {
	if a.Kind != b.Kind || (a.Given == none) != (b.Given == none) || !forms.Equal(a.Key, b.Key) {
		return false
	}
	return p.pair(variables, a.Var, b.Var) && (a.Given == none || p.pair(variables, a.Given, b.Given))
}
