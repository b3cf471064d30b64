package core

import (
	"strings"

	"commonform/api"
	"commonform/forms"
)

// What numbers stand for; each of these is numbered for itself.
const (
	variables = iota
	blocks
	tags
	numberings
)

// A checker knows the numbers that were bound, and those in whose scope the present node stands.
type checker struct {
	bound, open [numberings]map[int]bool
}

// Check returns OK for a right core tree.
func Check(c api.Core) api.Errno {
	if _, ok := measure(c); !ok {
		return api.ErrSize
	}
	k := &checker{}
	for i := range numberings {
		k.bound[i], k.open[i] = map[int]bool{}, map[int]bool{}
	}
	if !k.node(c) {
		return api.ErrForm
	}
	return api.OK
}

// bind opens the scope of a number that was not bound.
func (k *checker) bind(numbering, n int) bool {
	if n < 0 || n > greatest || k.bound[numbering][n] {
		return false
	}
	k.bound[numbering][n] = true
	k.open[numbering][n] = true
	return true
}

func (k *checker) bindAll(numbering int, l []int) bool {
	for _, n := range l {
		if !k.bind(numbering, n) {
			return false
		}
	}
	return true
}

func (k *checker) close(numbering int, l ...int) {
	for _, n := range l {
		delete(k.open[numbering], n)
	}
}

func (k *checker) nodes(l []api.Core) bool {
	for _, c := range l {
		if !k.node(c) {
			return false
		}
	}
	return true
}

// node looks at a node, its kids and the numbers in them.
func (k *checker) node(c api.Core) bool {
	if !hasRightFields(c) {
		return false
	}
	switch c.Op {
	case api.CoreVar, api.CoreSet:
		return k.open[variables][c.N] && k.nodes(c.Kids)
	case api.CoreReturn:
		return k.open[blocks][c.N] && k.nodes(c.Kids)
	case api.CoreGo:
		return k.open[tags][c.N]
	case api.CoreLambda:
		return k.lambda(c)
	case api.CoreLet:
		inits, body := c.Kids[:len(c.Vars)], c.Kids[len(c.Vars)]
		return k.nodes(inits) && k.within(variables, c.Vars, body)
	case api.CoreLabels:
		return k.within(variables, c.Vars, c.Kids...)
	case api.CoreBlock:
		return k.within(blocks, []int{c.N}, c.Kids...)
	case api.CoreTagbody:
		return k.within(tags, c.Vars, c.Kids...)
	}
	return k.nodes(c.Kids)
}

// within looks at nodes in the scope of some numbers.
func (k *checker) within(numbering int, l []int, kids ...api.Core) bool {
	ok := k.bindAll(numbering, l) && k.nodes(kids)
	k.close(numbering, l...)
	return ok
}

// lambda looks at the inits of parameters, each in the scope of those ahead of it, and at the body in that of all.
func (k *checker) lambda(c api.Core) bool {
	kids := c.Kids
	for _, p := range c.Pars {
		if hasInit(p) {
			if !k.node(kids[0]) {
				return false
			}
			kids = kids[1:]
		}
		if !k.bind(variables, p.Var) || p.Given != none && !k.bind(variables, p.Given) {
			return false
		}
	}
	ok := k.node(kids[0])
	k.close(variables, binds(c)...)
	return ok
}

// hasRightFields reports whether a node has the fields of its op, and as many kids as it must have.
func hasRightFields(c api.Core) bool {
	l, ok := layoutOf(c.Op)
	return ok && l.fits(c) && hasRightKids(c, l.kids) && hasRightData(c) && areSymbols(c.Syms) && areParameters(c.Pars)
}

// fits reports whether the fields that an op has not are zero values.
func (l layout) fits(c api.Core) bool {
	used := ""
	if c.N != 0 {
		used += "n"
	}
	if len(c.Vars) > 0 {
		used += "v"
	}
	if len(c.Syms) > 0 {
		used += "s"
	}
	if len(c.Pars) > 0 {
		used += "p"
	}
	if d := c.Data; d.Kind != 0 || d.Text != "" || d.Home != "" || len(d.Kids) > 0 {
		used += "d"
	}
	for _, letter := range used {
		if !strings.ContainsRune(l.fields, letter) {
			return false
		}
	}
	return c.Op != api.CoreLambda || c.N == 0 || c.N == 1
}

func hasRightKids(c api.Core, kids int) bool {
	n := len(c.Kids)
	switch kids {
	case anyKids:
		return true
	case atLeastOne:
		return n >= 1
	case oneMore:
		inits := 0
		for _, p := range c.Pars {
			if hasInit(p) {
				inits++
			}
		}
		return n == len(c.Vars)+len(c.Syms)+inits+1 && (c.Op != api.CoreLabels || areLambdas(c.Kids[:n-1]))
	}
	return n == kids
}

func areLambdas(l []api.Core) bool {
	for _, c := range l {
		if c.Op != api.CoreLambda {
			return false
		}
	}
	return true
}

func hasRightData(c api.Core) bool {
	switch c.Op {
	case api.CoreConst:
		return forms.Check(c.Data) == api.OK
	case api.CoreSpecial, api.CoreSetSpecial, api.CoreFunction, api.CoreCallGlobal:
		return isGlobal(c.Data)
	}
	return true
}

// isSymbol reports whether a form is a symbol that is right.
func isSymbol(f api.Form) bool { return f.Kind == api.FormSymbol && forms.Check(f) == api.OK }

// isGlobal reports whether a form is a symbol with a home that is no constant of COMMON-LISP.
func isGlobal(f api.Form) bool {
	return isSymbol(f) && f.Home != "" && !forms.IsNil(f) && !forms.Is(f, lisp, "T")
}

func areSymbols(l []api.Form) bool {
	met := map[name]bool{}
	for _, f := range l {
		if !isGlobal(f) || met[nameOf(f)] {
			return false
		}
		met[nameOf(f)] = true
	}
	return true
}

// areParameters reports whether parameters stand in order, and have what they may have, but for their numbers.
func areParameters(l []api.Param) bool {
	last := api.ParamRequired
	met := map[name]bool{}
	for i, p := range l {
		if p.Kind < last || p.Kind > api.ParamKey || i > 0 && p.Kind == api.ParamRest && last == api.ParamRest {
			return false
		}
		last = p.Kind
		if !hasInit(p) && p.Given != none {
			return false
		}
		if p.Kind != api.ParamKey {
			if !forms.Equal(p.Key, api.Form{}) {
				return false
			}
			continue
		}
		if !isSymbol(p.Key) || met[nameOf(p.Key)] {
			return false
		}
		met[nameOf(p.Key)] = true
	}
	return true
}
