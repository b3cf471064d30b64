package core_test

import (
	"math/rand"
	"slices"
	"strconv"
	"testing"

	"commonform/api"
	"commonform/core"
)

// Each node that is right for itself, and what makes it wrong.
func TestCheck(t *testing.T) {
	x, key := symbol("P", "X"), symbol("KEYWORD", "K")
	param := func(kind, v, given int, k api.Form) api.Param {
		return api.Param{Kind: kind, Var: v, Given: given, Key: k}
	}
	lambda := func(kids int, pars ...api.Param) api.Core {
		return api.Core{Op: api.CoreLambda, Pars: pars, Kids: slices.Repeat([]api.Core{nothing()}, kids)}
	}
	c := nothing()
	none := api.Form{}
	for i, x := range []struct {
		c api.Core
		e api.Errno
	}{
		{api.Core{}, api.ErrForm},
		{n(-1), api.ErrForm},
		{n(25), api.ErrForm},
		{c, api.OK},
		{n(api.CoreConst), api.ErrForm},
		{n(api.CoreConst, c), api.ErrForm},
		{api.Core{Op: api.CoreConst, Data: x, N: 1}, api.ErrForm},
		{api.Core{Op: api.CoreConst, Data: x, Vars: []int{0}}, api.ErrForm},
		{api.Core{Op: api.CoreConst, Data: x, Syms: []api.Form{x}}, api.ErrForm},
		{api.Core{Op: api.CoreConst, Data: x, Pars: []api.Param{param(1, 0, -1, none)}}, api.ErrForm},
		{api.Core{Op: api.CoreConst, Data: api.Form{Kind: api.FormInt, Text: "01"}}, api.ErrForm},
		{api.Core{Op: api.CoreConst, Data: api.Form{Kind: api.FormRef, Text: "0"}}, api.ErrForm},
		{api.Core{Op: api.CoreConst, Data: api.Form{Kind: api.FormLabel, Text: "0", Kids: []api.Form{x}}}, api.OK},
		{api.Core{Op: api.CoreConst, Data: x, Vars: []int{}, Syms: []api.Form{}, Pars: []api.Param{}, Kids: []api.Core{}}, api.OK},
		{api.Core{Op: api.CoreVar}, api.ErrForm},
		{api.Core{Op: api.CoreSpecial, Data: x}, api.OK},
		{api.Core{Op: api.CoreSpecial, Data: key}, api.OK},
		{api.Core{Op: api.CoreSpecial, Data: symbol("", "X")}, api.ErrForm},
		{api.Core{Op: api.CoreSpecial, Data: symbol("COMMON-LISP", "NIL")}, api.ErrForm},
		{api.Core{Op: api.CoreSpecial, Data: symbol("COMMON-LISP", "T")}, api.ErrForm},
		{api.Core{Op: api.CoreSpecial, Data: symbol("COMMON-LISP-USER", "T")}, api.OK},
		{api.Core{Op: api.CoreSpecial, Data: symbol("P", "\xff")}, api.ErrForm},
		{api.Core{Op: api.CoreSpecial, Data: api.Form{Kind: api.FormSymbol, Home: "P", Text: "X", Kids: []api.Form{x}}}, api.ErrForm},
		{api.Core{Op: api.CoreSpecial, Data: api.Form{Kind: api.FormString, Text: "X"}}, api.ErrForm},
		{api.Core{Op: api.CoreSpecial, Data: x, Kids: []api.Core{c}}, api.ErrForm},
		{api.Core{Op: api.CoreSetSpecial, Data: x, Kids: []api.Core{c}}, api.OK},
		{api.Core{Op: api.CoreSetSpecial, Data: x}, api.ErrForm},
		{api.Core{Op: api.CoreFunction, Data: x}, api.OK},
		{api.Core{Op: api.CoreFunction}, api.ErrForm},
		{api.Core{Op: api.CoreCallGlobal, Data: x}, api.OK},
		{api.Core{Op: api.CoreCallGlobal, Data: x, Kids: []api.Core{c, c}}, api.OK},
		{api.Core{Op: api.CoreCallGlobal, Kids: []api.Core{c, c}}, api.ErrForm},
		{n(api.CoreCall), api.ErrForm},
		{n(api.CoreCall, c), api.OK},
		{n(api.CoreIf, c, c), api.ErrForm},
		{n(api.CoreIf, c, c, c), api.OK},
		{n(api.CoreIf, c, c, c, c), api.ErrForm},
		{n(api.CoreIf, c, n(0), c), api.ErrForm},
		{n(api.CoreProgn), api.OK},
		{api.Core{Op: api.CoreProgn, Data: x}, api.ErrForm},
		{api.Core{Op: api.CoreProgn, Data: api.Form{Text: "X"}}, api.ErrForm},
		{api.Core{Op: api.CoreProgn, Data: api.Form{Home: "P"}}, api.ErrForm},
		{api.Core{Op: api.CoreProgn, Data: api.Form{Kids: []api.Form{x}}}, api.ErrForm},
		{api.Core{Op: api.CoreProgn, Data: api.Form{Kind: 1}}, api.ErrForm},
		{api.Core{Op: api.CoreProgn, Data: api.Form{Kids: []api.Form{}}}, api.OK},
		{n(api.CoreProgn, c, c, c), api.OK},
		{n(api.CoreLet, c), api.OK},
		{n(api.CoreLet), api.ErrForm},
		{n(api.CoreLet, c, c), api.ErrForm},
		{api.Core{Op: api.CoreLet, Vars: []int{3}, Kids: []api.Core{c, c}}, api.OK},
		{api.Core{Op: api.CoreLet, Vars: []int{10000}, Kids: []api.Core{c, c}}, api.ErrForm},
		{api.Core{Op: api.CoreLet, Vars: []int{9999}, Kids: []api.Core{c, c}}, api.OK},
		{api.Core{Op: api.CoreLet, Vars: []int{-1}, Kids: []api.Core{c, c}}, api.ErrForm},
		{api.Core{Op: api.CoreLet, Vars: []int{3, 3}, Kids: []api.Core{c, c, c}}, api.ErrForm},
		{api.Core{Op: api.CoreLabels, Vars: []int{3}, Kids: []api.Core{c, c}}, api.ErrForm},
		{api.Core{Op: api.CoreLabels, Vars: []int{3}, Kids: []api.Core{lambda(1), c}}, api.OK},
		{api.Core{Op: api.CoreBind, Syms: []api.Form{x}, Kids: []api.Core{c, c}}, api.OK},
		{api.Core{Op: api.CoreBind, Syms: []api.Form{x, key}, Kids: []api.Core{c, c, c}}, api.OK},
		{api.Core{Op: api.CoreBind, Syms: []api.Form{x, x}, Kids: []api.Core{c, c, c}}, api.ErrForm},
		{api.Core{Op: api.CoreBind, Syms: []api.Form{symbol("", "X")}, Kids: []api.Core{c, c}}, api.ErrForm},
		{api.Core{Op: api.CoreBind, Syms: []api.Form{symbol("COMMON-LISP", "T")}, Kids: []api.Core{c, c}}, api.ErrForm},
		{api.Core{Op: api.CoreBind, Syms: []api.Form{x}, Kids: []api.Core{c}}, api.ErrForm},
		{n(api.CoreProgv, c, c, c), api.OK},
		{n(api.CoreProgv, c, c), api.ErrForm},
		{api.Core{Op: api.CoreReturn, Kids: []api.Core{c}}, api.ErrForm},
		{api.Core{Op: api.CoreBlock, Kids: []api.Core{c}}, api.OK},
		{api.Core{Op: api.CoreBlock, N: -1, Kids: []api.Core{c}}, api.ErrForm},
		{api.Core{Op: api.CoreBlock}, api.ErrForm},
		{n(api.CoreTagbody, c), api.OK},
		{n(api.CoreTagbody), api.ErrForm},
		{api.Core{Op: api.CoreTagbody, Vars: []int{1, 1}, Kids: []api.Core{c, c, c}}, api.ErrForm},
		{api.Core{Op: api.CoreGo}, api.ErrForm},
		{n(api.CoreCatch, c, c), api.OK},
		{n(api.CoreCatch, c), api.ErrForm},
		{n(api.CoreThrow, c, c), api.OK},
		{n(api.CoreThrow, c, c, c), api.ErrForm},
		{n(api.CoreProtect, c, c), api.OK},
		{n(api.CoreProtect, c), api.ErrForm},
		{n(api.CoreValuesCall), api.ErrForm},
		{n(api.CoreValuesCall, c), api.OK},
		{n(api.CoreValuesFirst), api.ErrForm},
		{n(api.CoreValuesFirst, c, c), api.OK},
		{lambda(1), api.OK},
		{lambda(0), api.ErrForm},
		{lambda(2), api.ErrForm},
		{api.Core{Op: api.CoreLambda, N: 1, Kids: []api.Core{c}}, api.OK},
		{api.Core{Op: api.CoreLambda, N: 2, Kids: []api.Core{c}}, api.ErrForm},
		{api.Core{Op: api.CoreLambda, N: -1, Kids: []api.Core{c}}, api.ErrForm},
		{lambda(1, param(1, 0, -1, none)), api.OK},
		{lambda(1, param(0, 0, -1, none)), api.ErrForm},
		{lambda(1, param(5, 0, -1, none)), api.ErrForm},
		{lambda(1, param(1, 0, 1, none)), api.ErrForm},
		{lambda(1, param(1, 0, -1, key)), api.ErrForm},
		{lambda(1, param(1, 0, -1, none), param(1, 0, -1, none)), api.ErrForm},
		{lambda(1, param(1, -1, -1, none)), api.ErrForm},
		{lambda(2, param(2, 0, 1, none)), api.OK},
		{lambda(2, param(2, 0, -1, none)), api.OK},
		{lambda(2, param(2, 0, 0, none)), api.ErrForm},
		{lambda(2, param(2, 0, -2, none)), api.ErrForm},
		{lambda(2, param(2, 0, 10000, none)), api.ErrForm},
		{lambda(1, param(2, 0, -1, none)), api.ErrForm},
		{lambda(2, param(2, 0, -1, key)), api.ErrForm},
		{lambda(2, param(2, 0, -1, none), param(1, 1, -1, none)), api.ErrForm},
		{lambda(1, param(3, 0, -1, none)), api.OK},
		{lambda(1, param(3, 0, 1, none)), api.ErrForm},
		{lambda(1, param(3, 0, -1, none), param(3, 1, -1, none)), api.ErrForm},
		{lambda(2, param(3, 0, -1, none), param(4, 1, -1, key)), api.OK},
		{lambda(2, param(4, 1, 2, key), param(3, 0, -1, none)), api.ErrForm},
		{lambda(2, param(4, 1, 2, none)), api.ErrForm},
		{lambda(2, param(4, 1, 2, symbol("", "K"))), api.OK},
		{lambda(2, param(4, 1, 2, symbol("COMMON-LISP", "NIL"))), api.OK},
		{lambda(2, param(4, 1, 2, symbol("P", "\xff"))), api.ErrForm},
		{lambda(2, param(4, 1, 2, api.Form{Kind: api.FormInt, Text: "1"})), api.ErrForm},
		{lambda(3, param(4, 1, 2, key), param(4, 3, 4, key)), api.ErrForm},
		{lambda(3, param(4, 1, 2, key), param(4, 3, 4, x)), api.OK},
	} {
		if e := core.Check(x.c); e != x.e {
			t.Errorf("%d: Check(%s) = %v; want %v", i, brief(x.c), e, x.e)
		}
	}
}

// Numbers in and out of their scopes.
func TestScopes(t *testing.T) {
	for _, s := range []string{
		"(let [0] (const #1) (var 0))",
		"(let [0] (const #1) (set 0 (lambda 0 (var 0))))",
		"(let [0 1] (let [2] (const #1) (var 2)) (const #1) (progn (var 0) (var 1)))",
		"(labels [0] (lambda 0 (var 0)) (var 0))",
		"(lambda 0 {1 0 -1 -} {2 1 2 -} (var 0) (progn (var 1) (var 2)))",
		"(lambda 0 {2 0 1 -} {4 2 3 :K} (const #1) (progn (var 0) (var 1)) (progn (var 2) (var 3)))",
		"(block 0 (lambda 0 (return 0 (const #1))))",
		"(block 0 (block 1 (return 0 (return 1 (const #1)))))",
		"(tagbody [0 1] (go 1) (go 0) (lambda 0 (go 1)))",
		"(block 0 (let [0] (const #1) (tagbody [0] (var 0) (go 0))))",
	} {
		tree(t, s)
	}
	for _, s := range []string{
		"(var 0)", "(set 0 (const #1))", "(return 0 (const #1))", "(go 0)",
		"(let [0] (var 0) (const #1))", "(let [0 1] (const #1) (var 0) (const #1))", "(progn (let [0] (const #1) (var 0)) (var 0))", "(let [0] (const #1) (var 1))",
		"(let [0] (const #1) (let [0] (const #1) (var 0)))", "(progn (let [0] (const #1) (var 0)) (let [0] (const #1) (var 0)))",
		"(let [0] (let [0] (const #1) (var 0)) (var 0))",
		"(lambda 0 {2 0 1 -} (var 0) (const #1))", "(lambda 0 {2 0 1 -} (var 1) (const #1))", "(lambda 0 {2 0 -1 -} {2 1 -1 -} (var 1) (const #1) (const #1))",
		"(progn (lambda 0 {1 0 -1 -} (var 0)) (var 0))", "(labels [0] (lambda 0 {1 0 -1 -} (var 0)) (var 0))", "(progn (labels [0] (lambda 0 (var 0)) (var 0)) (var 0))",
		"(progn (block 0 (const #1)) (return 0 (const #1)))", "(progn (block 0 (const #1)) (block 0 (const #1)))", "(block 0 (block 0 (const #1)))",
		"(progn (tagbody [0] (go 0) (const #1)) (go 0))", "(tagbody [0] (const #1) (tagbody [0] (const #1) (go 0)))", "(block 0 (go 0))", "(let [0] (const #1) (return 0 (var 0)))",
		"(let [0] (const #1) (lambda 0 {2 1 -1 -} (var 1) (var 0)))",
	} {
		if _, e := core.Parse(long(s)); e != api.ErrForm {
			t.Errorf("Parse(%s): %v; want ErrForm", s, e)
		}
	}
}

func chain(nodes int) api.Core {
	c := n(api.CoreProgn)
	for range nodes - 1 {
		c = n(api.CoreProgn, c)
	}
	return c
}

// Sizes come ahead of all that is wrong.
func TestCheckSize(t *testing.T) {
	many := n(api.CoreProgn, slices.Repeat([]api.Core{nothing()}, api.MaxForm-1)...)
	wrong := n(0, slices.Repeat([]api.Core{nothing()}, api.MaxForm-1)...)
	again := many
	for range 40 {
		again = n(api.CoreProgn, again, again)
	}
	for i, x := range []struct {
		c    api.Core
		e    api.Errno
		size int
	}{
		{many, api.OK, api.MaxForm},
		{n(api.CoreProgn, many), api.ErrSize, 0},
		{wrong, api.ErrForm, api.MaxForm},
		{n(0, wrong), api.ErrSize, 0},
		{chain(api.MaxDepth), api.OK, api.MaxDepth},
		{chain(api.MaxDepth + 1), api.ErrSize, 0},
		{again, api.ErrSize, 0},
	} {
		if e := core.Check(x.c); e != x.e || core.Size(x.c) != x.size {
			t.Errorf("%d: Check = %v, Size = %d; want %v, %d", i, e, core.Size(x.c), x.e, x.size)
		}
	}
}

// isRight tells by the definition whether the numbers of a tree are right: each is bound once, and stands in a scope.
func isRight(c api.Core) bool {
	met := map[string]bool{}
	var look func(c api.Core, variables, blocks, tags []int) bool
	once := func(sort string, l ...int) bool {
		for _, n := range l {
			id := sort + strconv.Itoa(n)
			if n < 0 || met[id] {
				return false
			}
			met[id] = true
		}
		return true
	}
	look = func(c api.Core, variables, blocks, tags []int) bool {
		inner := make([][]int, len(c.Kids)) // the variables in whose scope each kid stands
		for i := range inner {
			inner[i] = variables
		}
		switch c.Op {
		case api.CoreVar, api.CoreSet:
			if !slices.Contains(variables, c.N) {
				return false
			}
		case api.CoreReturn:
			if !slices.Contains(blocks, c.N) {
				return false
			}
		case api.CoreGo:
			if !slices.Contains(tags, c.N) {
				return false
			}
		case api.CoreLet:
			inner[len(c.Vars)] = and(variables, c.Vars...)
			if !once("v", c.Vars...) {
				return false
			}
		case api.CoreLabels:
			for i := range inner {
				inner[i] = and(variables, c.Vars...)
			}
			if !once("v", c.Vars...) {
				return false
			}
		case api.CoreLambda:
			kid := 0
			for _, p := range c.Pars {
				if p.Kind == api.ParamOptional || p.Kind == api.ParamKey {
					inner[kid] = variables
					kid++
				}
				variables = and(variables, p.Var)
				if !once("v", p.Var) {
					return false
				}
				if p.Given != -1 {
					variables = and(variables, p.Given)
					if !once("v", p.Given) {
						return false
					}
				}
			}
			inner[kid] = variables
		case api.CoreBlock:
			blocks = and(blocks, c.N)
			if !once("b", c.N) {
				return false
			}
		case api.CoreTagbody:
			tags = and(tags, c.Vars...)
			if !once("t", c.Vars...) {
				return false
			}
		}
		for i, k := range c.Kids {
			if !look(k, inner[i], blocks, tags) {
				return false
			}
		}
		return true
	}
	return look(c, nil, nil, nil)
}

func TestCheckModel(t *testing.T) {
	right := map[bool]int{}
	trees(false, func(c api.Core, _ *rand.Rand) {
		want := isRight(c)
		right[want]++
		if got := core.Check(c) == api.OK; got != want {
			t.Fatalf("Check(%s) is right: %v; want %v", brief(c), got, want)
		}
	})
	if right[true] < 200 || right[false] < 200 {
		t.Errorf("%v right and wrong trees", right)
	}
	trees(true, func(c api.Core, _ *rand.Rand) {
		if e := core.Check(c); e != api.OK {
			t.Fatalf("Check(%s) = %v", brief(c), e)
		}
		if free := core.Free(c); len(free) > 0 {
			t.Fatalf("Free(%s) = %v", brief(c), free)
		}
	})
}

func TestFree(t *testing.T) {
	v := func(v int) api.Core { return api.Core{Op: api.CoreVar, N: v} }
	set := func(v int, value api.Core) api.Core {
		return api.Core{Op: api.CoreSet, N: v, Kids: []api.Core{value}}
	}
	lambda := api.Core{Op: api.CoreLambda, Pars: []api.Param{{Kind: 1, Var: 4, Given: -1}, {Kind: 2, Var: 5, Given: 6}}, Kids: []api.Core{v(9), n(api.CoreProgn, v(4), v(5), v(6), v(-1), v(4))}}
	for i, x := range []struct {
		c    api.Core
		want []int
	}{
		{v(7), []int{7}},
		{n(api.CoreProgn, v(7), set(2, v(7)), v(3)), []int{2, 3, 7}},
		{api.Core{Op: api.CoreLet, Vars: []int{3}, Kids: []api.Core{v(4), n(api.CoreProgn, v(3), v(5))}}, []int{4, 5}},
		{api.Core{Op: api.CoreLabels, Vars: []int{3}, Kids: []api.Core{lambda, v(3)}}, []int{-1, 9}},
		{lambda, []int{-1, 9}},
		{api.Core{Op: api.CoreReturn, N: 5, Kids: []api.Core{v(1)}}, []int{1}},
		{api.Core{Op: api.CoreTagbody, Vars: []int{1}, Kids: []api.Core{v(1)}}, []int{1}},
		{n(api.CoreProgn, append(chain(100).Kids, v(1))...), []int{1}},
		{n(api.CoreProgn, chain(100), v(1)), nil},
		{n(99, v(20000)), []int{20000}},
	} {
		if got := core.Free(x.c); !slices.Equal(got, x.want) {
			t.Errorf("%d: Free = %v; want %v", i, got, x.want)
		}
	}
	if got := core.Size(lambda); got != 8 {
		t.Errorf("Size = %d; want 8", got)
	}
}
