package meaning

import (
	"commonform/api"
	"commonform/heap"
	"commonform/lib"
)

// apply calls a function.
func (r *run) apply(function heap.Word, args []heap.Word) task {
	switch r.heap.Kind(function) {
	case heap.KindClosure:
		lambda := r.state.lambda(r.heap, function)
		if lambda == nil {
			return r.fault("CONTROL-ERROR", function)
		}
		return r.enterClosure(lambda, function, args)
	case heap.KindCode:
		return r.applyCode(function, args)
	}
	a := r.call(function, args)
	switch a.Kind {
	case lib.AnswerValues:
		return give(a.Values...)
	case lib.AnswerFault:
		return r.fault(a.Fault.Type, a.Fault.Data...)
	case lib.AnswerNext:
		return call(a.Function, a.Values)
	case lib.AnswerLimit:
		stopLimit(a.Code)
	}
	// Somebody has registered a function with an answer of another kind.
	refuse(api.ErrArg)
	return task{}
}

// applyCode calls compiled code, if the world has a machine.
func (r *run) applyCode(function heap.Word, args []heap.Word) task {
	machine, ok := r.w.Extra("apply").(func(function heap.Word, args []heap.Word, steps int) (lib.End, int))
	if !ok || machine == nil {
		return r.fault("CONTROL-ERROR", function)
	}
	left := r.limit - r.steps
	e, took := machine(function, args, left)
	r.steps += max(0, min(took, left))
	switch e.Kind {
	case lib.EndValues:
		return give(e.Values...)
	case lib.EndFault:
		return end(e.Fault)
	}
	panic(stop{e})
}

// A shape says how many parameters of each kind a lambda has.
type shape struct {
	required, optional   int
	hasRest, allows, key bool
}

func shapeOf(c api.Core) shape {
	s := shape{allows: c.N == 1, key: c.N == 1}
	for _, p := range c.Pars {
		switch p.Kind {
		case api.ParamRequired:
			s.required++
		case api.ParamOptional:
			s.optional++
		case api.ParamRest:
			s.hasRest = true
		case api.ParamKey:
			s.key = true
		}
	}
	return s
}

// left returns the arguments that no required and no optional parameter takes.
func (s shape) left(args []heap.Word) []heap.Word {
	return args[min(len(args), s.required+s.optional):]
}

// enterClosure binds arguments, and goes on with the body.
func (r *run) enterClosure(lambda *node, function heap.Word, args []heap.Word) task {
	if !r.fits(lambda, args) {
		return r.fault("PROGRAM-ERROR", function)
	}
	return r.bindParameters(&parameters{lambda: lambda, args: args, env: environment{rest: r.get(function, 1)}})
}

// fits reports whether a lambda takes some arguments.
func (r *run) fits(lambda *node, args []heap.Word) bool {
	s := shapeOf(lambda.tree)
	left := s.left(args)
	if len(args) < s.required || len(left) > 0 && !s.hasRest && !s.key {
		return false
	}
	if !s.key {
		return true
	}
	allow := api.Form{Home: keywords, Text: "ALLOW-OTHER-KEYS"}
	value, ok := r.keyed(left, allow)
	s.allows = s.allows || ok && value != heap.Nil
	for i := 0; i < len(left); i += 2 {
		home, name, e := r.w.Name(left[i])
		if e != api.OK {
			return false
		}
		key := api.Form{Home: home, Text: name}
		if !s.allows && !isSame(key, allow) && !hasKey(lambda.tree, key) {
			return false
		}
	}
	return len(left)%2 == 0
}

func isSame(a, b api.Form) bool { return a.Home == b.Home && a.Text == b.Text }

func hasKey(c api.Core, key api.Form) bool {
	for _, p := range c.Pars {
		if p.Kind == api.ParamKey && isSame(p.Key, key) {
			return true
		}
	}
	return false
}

// keyed returns the first value behind a key.
func (r *run) keyed(left []heap.Word, key api.Form) (heap.Word, bool) {
	for i := 0; i+1 < len(left); i += 2 {
		home, name, e := r.w.Name(left[i])
		if e == api.OK && isSame(key, api.Form{Home: home, Text: name}) {
			return left[i+1], true
		}
	}
	return 0, false
}

// argument returns what the next parameter gets, if it gets something.
func (r *run) argument(f *parameters) (heap.Word, bool) {
	left := shapeOf(f.lambda.tree).left(f.args)
	switch p := f.lambda.tree.Pars[f.next]; p.Kind {
	case api.ParamRest:
		return r.newList(left), true
	case api.ParamKey:
		return r.keyed(left, p.Key)
	}
	if f.next < len(f.args) {
		return f.args[f.next], true
	}
	return 0, false
}

// bindParameters binds one parameter after the other, up to one whose init is to be evaluated.
func (r *run) bindParameters(f *parameters) task {
	for f.next < len(f.lambda.tree.Pars) {
		value, given := r.argument(f)
		if !given {
			r.push(f)
			return begin(f.lambda.kids[f.inits], f.env)
		}
		r.bindNext(f, value, true)
	}
	return begin(f.lambda.last(), f.env)
}

// initialize binds the parameter that was missing, and goes on with those behind it.
func (r *run) initialize(f *parameters, value heap.Word) task {
	r.bindNext(f, value, false)
	return r.bindParameters(f)
}

func (r *run) bindNext(f *parameters, value heap.Word, given bool) {
	p := f.lambda.tree.Pars[f.next]
	f.next++
	f.env = r.bind(f.env, p.Var, value)
	if p.Kind == api.ParamOptional || p.Kind == api.ParamKey {
		f.inits++
	}
	if p.Given < 0 {
		return
	}
	told := heap.Nil
	if given {
		told = r.lisp("T")
	}
	f.env = r.bind(f.env, p.Given, told)
}

// spread takes the values of the function, or those of an argument, and goes on with the next one.
func (r *run) spread(f *spreading, values []heap.Word) task {
	if f.next == 1 {
		values = []heap.Word{first(values)}
	}
	f.words = append(f.words, values...)
	if f.next == len(f.node.kids) {
		return call(f.words[0], f.words[1:])
	}
	f.next++
	r.push(f)
	return begin(f.node.kids[f.next-1], f.env)
}
