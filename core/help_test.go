package core_test

import (
	"math/rand"
	"reflect"
	"strconv"
	"strings"
	"testing"

	"commonform/api"
	"commonform/core"
	"commonform/reader"
)

// read returns the form of a text, with COMMON-LISP as the package.
func read(t *testing.T, s string) api.Form {
	t.Helper()
	r, at, e := reader.One(reader.Standard("COMMON-LISP"), s)
	if e != api.OK {
		t.Fatalf("One(%q): %d, %v", s, at, e)
	}
	return r.Form
}

// long and short change between the texts of trees and shorter ones: 'X is a symbol of COMMON-LISP, :X one of KEYWORD, #1 an integer.
func long(s string) string {
	return strings.NewReplacer(" '", " 1:COMMON-LISP:", "['", "[1:COMMON-LISP:", " :", " 1:KEYWORD:", "#", "2::").Replace(s)
}

func short(s string) string {
	return strings.NewReplacer("1:COMMON-LISP:", "'", "1:KEYWORD:", ":", " 2::", " #", "(2::", "(#").Replace(s)
}

// tree returns the right tree of a short text.
func tree(t *testing.T, s string) api.Core {
	t.Helper()
	c, e := core.Parse(long(s))
	if e != api.OK {
		t.Fatalf("Parse(%s): %v", long(s), e)
	}
	return c
}

// show returns the short text of a right tree.
func show(t *testing.T, c api.Core) string {
	t.Helper()
	s, e := core.Show(c)
	if e != api.OK {
		t.Fatalf("Show(%+v): %v", c, e)
	}
	return short(s)
}

// n makes a node with kids.
func n(op int, kids ...api.Core) api.Core { return api.Core{Op: op, Kids: kids} }

func symbol(home, name string) api.Form {
	return api.Form{Kind: api.FormSymbol, Home: home, Text: name}
}

// nothing is a constant.
func nothing() api.Core {
	return api.Core{Op: api.CoreConst, Data: symbol("COMMON-LISP", "NIL")}
}

// brief tells which tree is meant, if it has a text.
func brief(c api.Core) string {
	s, e := core.Show(c)
	if e != api.OK {
		return "a wrong tree of " + strconv.Itoa(core.Size(c)) + " nodes"
	}
	return s
}

func isZero(c api.Core) bool { return reflect.DeepEqual(c, api.Core{}) }

// A planter makes trees. Those of a careful one are right.
type planter struct {
	r       *rand.Rand
	next    int
	careful bool
}

// number returns a fresh number; a careless planter may return one that is taken, or none.
func (p *planter) number() int {
	p.next++
	if !p.careful && p.r.Intn(12) == 0 {
		return p.r.Intn(p.next+1) - 1
	}
	return p.next - 1
}

// one returns an element of a list, or of what is not there.
func (p *planter) one(l []int) (int, bool) {
	if !p.careful && p.r.Intn(12) == 0 {
		return p.r.Intn(p.next + 1), true
	}
	if len(l) == 0 {
		return 0, false
	}
	return l[p.r.Intn(len(l))], true
}

// A place says which numbers are in scope.
type place struct{ variables, blocks, tags []int }

func and(l []int, more ...int) []int { return append(append([]int(nil), l...), more...) }

func (p *planter) name() api.Form {
	return symbol("P", string(rune('A'+p.r.Intn(20))))
}

func (p *planter) leaf(at place) api.Core {
	switch p.r.Intn(5) {
	case 0:
		if v, ok := p.one(at.variables); ok {
			return api.Core{Op: api.CoreVar, N: v}
		}
	case 1:
		if v, ok := p.one(at.tags); ok {
			return api.Core{Op: api.CoreGo, N: v}
		}
	case 2:
		return api.Core{Op: api.CoreSpecial, Data: p.name()}
	case 3:
		return api.Core{Op: api.CoreFunction, Data: p.name()}
	}
	return api.Core{Op: api.CoreConst, Data: api.Form{Kind: api.FormInt, Text: strconv.Itoa(p.r.Intn(9))}}
}

func (p *planter) some(depth int, at place, count int) []api.Core {
	var l []api.Core
	for range count {
		l = append(l, p.tree(depth, at))
	}
	return l
}

func (p *planter) lambda(depth int, at place) api.Core {
	c := api.Core{Op: api.CoreLambda, N: p.r.Intn(2)}
	for kind := api.ParamRequired; kind <= api.ParamKey; kind++ {
		for i := range p.r.Intn(3) {
			if kind == api.ParamRest && i > 0 {
				continue
			}
			param := api.Param{Kind: kind, Given: -1}
			isOptional := kind == api.ParamOptional || kind == api.ParamKey
			if isOptional {
				c.Kids = append(c.Kids, p.tree(depth-1, at))
			}
			param.Var = p.number()
			at.variables = and(at.variables, param.Var)
			if isOptional && p.r.Intn(2) == 0 {
				param.Given = p.number()
				at.variables = and(at.variables, param.Given)
			}
			if kind == api.ParamKey {
				param.Key = symbol("KEYWORD", "K"+strconv.Itoa(i))
			}
			c.Pars = append(c.Pars, param)
		}
	}
	c.Kids = append(c.Kids, p.tree(depth-1, at))
	return c
}

func (p *planter) tree(depth int, at place) api.Core {
	if depth <= 0 || p.r.Intn(6) == 0 {
		return p.leaf(at)
	}
	depth--
	switch op := p.r.Intn(25); op {
	case api.CoreSet:
		if v, ok := p.one(at.variables); ok {
			return api.Core{Op: op, N: v, Kids: p.some(depth, at, 1)}
		}
	case api.CoreSetSpecial:
		return api.Core{Op: op, Data: p.name(), Kids: p.some(depth, at, 1)}
	case api.CoreLambda:
		return p.lambda(depth, at)
	case api.CoreCallGlobal:
		return api.Core{Op: op, Data: p.name(), Kids: p.some(depth, at, p.r.Intn(3))}
	case api.CoreCall, api.CoreValuesCall, api.CoreValuesFirst:
		return n(op, p.some(depth, at, 1+p.r.Intn(3))...)
	case api.CoreIf, api.CoreProgv:
		return n(op, p.some(depth, at, 3)...)
	case api.CoreProgn:
		return n(op, p.some(depth, at, p.r.Intn(3))...)
	case api.CoreCatch, api.CoreThrow, api.CoreProtect:
		return n(op, p.some(depth, at, 2)...)
	case api.CoreReturn:
		if v, ok := p.one(at.blocks); ok {
			return api.Core{Op: op, N: v, Kids: p.some(depth, at, 1)}
		}
	case api.CoreLet, api.CoreLabels, api.CoreBlock, api.CoreTagbody, api.CoreBind:
		return p.binder(op, depth, at)
	}
	return p.leaf(at)
}

// binder makes a node that binds something.
func (p *planter) binder(op, depth int, at place) api.Core {
	c := api.Core{Op: op}
	switch op {
	case api.CoreLet:
		c.Kids = p.some(depth, at, p.r.Intn(3))
		for range c.Kids {
			c.Vars = append(c.Vars, p.number())
		}
		at.variables = and(at.variables, c.Vars...)
	case api.CoreLabels:
		for range p.r.Intn(3) {
			c.Vars = append(c.Vars, p.number())
		}
		at.variables = and(at.variables, c.Vars...)
		for range c.Vars {
			c.Kids = append(c.Kids, p.lambda(depth, at))
		}
	case api.CoreBlock:
		c.N = p.number()
		at.blocks = and(at.blocks, c.N)
	case api.CoreTagbody:
		for range p.r.Intn(3) {
			c.Vars = append(c.Vars, p.number())
		}
		at.tags = and(at.tags, c.Vars...)
		c.Kids = p.some(depth, at, len(c.Vars))
	case api.CoreBind:
		c.Kids = p.some(depth, at, p.r.Intn(3))
		for i := range c.Kids {
			c.Syms = append(c.Syms, symbol("P", "S"+strconv.Itoa(i)))
		}
	}
	c.Kids = append(c.Kids, p.tree(depth, at))
	return c
}

// trees calls f with many trees, which are right if they are made with care.
func trees(careful bool, f func(c api.Core, r *rand.Rand)) {
	for seed := range int64(1500) {
		r := rand.New(rand.NewSource(seed))
		p := &planter{r: r, careful: careful}
		f(p.tree(6, place{}), r)
	}
}
