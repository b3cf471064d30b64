package meaning

import (
	"commonform/api"
	"commonform/heap"
)

// A scope is one entry of an environment: a variable with its cell, or a block or a tagbody with the number of what was begun.
type scope struct {
	key   int
	cell  heap.Word
	outer *scope
	list  heap.Word // its environment as an object of the heap; a fixnum as long as no closure needs it
}

// An environment has scopes, and behind them those of the closure that was called, which are a list in the heap.
type environment struct {
	inner *scope
	rest  heap.Word
}

// with returns the environment with an entry more.
func (env environment) with(key int, cell heap.Word) environment {
	return environment{&scope{key: key, cell: cell, outer: env.inner}, env.rest}
}

// make makes an object.
func (r *run) make(kind int, fields ...heap.Word) heap.Word {
	x, e := r.heap.New(kind, len(fields))
	for i, y := range fields {
		if e == api.OK {
			e = r.heap.Set(x, i, y)
		}
	}
	if e != api.OK {
		refuse(e)
	}
	return x
}

func fixnum(n int64) heap.Word {
	x, _ := heap.Fix(n)
	return x
}

func (r *run) get(x heap.Word, i int) heap.Word {
	y, _ := r.heap.Get(x, i)
	return y
}

// bind returns the environment with a variable in a new cell.
func (r *run) bind(env environment, variable int, value heap.Word) environment {
	return env.with(variable, r.make(heap.KindBox, value))
}

// find returns the cell of a variable, or of what a block or a tagbody has.
func (r *run) find(env environment, key int) heap.Word {
	for s := env.inner; s != nil; s = s.outer {
		if s.key == key {
			return s.cell
		}
	}
	wanted := fixnum(int64(key))
	for l := env.rest; r.heap.Kind(l) == heap.KindCons; l = r.get(l, 1) {
		if entry := r.get(l, 0); r.get(entry, 0) == wanted {
			return r.get(entry, 1)
		}
	}
	// Somebody has changed the environment of a closure.
	refuse(api.ErrType)
	return 0
}

// list returns the list of an environment in the heap.
func (r *run) list(env environment) heap.Word {
	var missing []*scope
	list := env.rest
	for s := env.inner; s != nil; s = s.outer {
		if s.list.IsRef() {
			list = s.list
			break
		}
		missing = append(missing, s)
	}
	for i := len(missing) - 1; i >= 0; i-- {
		s := missing[i]
		cell := s.cell
		if !cell.IsRef() {
			cell = r.make(heap.KindBox, cell)
		}
		list = r.make(heap.KindCons, r.make(heap.KindCons, fixnum(int64(s.key)), cell), list)
		s.list = list
	}
	return list
}

// closure makes a closure of a lambda.
func (r *run) closure(n *node, env environment) heap.Word {
	if n.index < 0 {
		n.index = len(r.state.lambdas)
		r.state.lambdas = append(r.state.lambdas, n)
	}
	return r.make(heap.KindClosure, fixnum(int64(n.index)), r.list(env))
}

// enter returns the environment of a block or a tagbody that is begun, and the number by which an exit finds it.
func (r *run) enter(n *node, env environment) (environment, int64) {
	r.serial++
	id := r.number<<serialShift | r.serial
	return env.with(n.key, fixnum(id)), id
}

// entered returns the number of the block or the tagbody to which an exit leads.
func (r *run) entered(n *node, env environment) int64 {
	x := r.find(env, n.key)
	if x.IsRef() {
		x = r.get(x, 0)
	}
	id, _ := x.Fixnum()
	return id
}

// elements returns the elements of a proper list.
func (r *run) elements(x heap.Word) ([]heap.Word, bool) {
	var l []heap.Word
	for r.heap.Kind(x) == heap.KindCons && r.heap.Len(x) == 2 {
		if len(l) > api.MaxWords {
			return nil, false
		}
		l = append(l, r.get(x, 0))
		x = r.get(x, 1)
	}
	return l, x == heap.Nil
}

// newList makes a list.
func (r *run) newList(l []heap.Word) heap.Word {
	list := heap.Nil
	for i := len(l) - 1; i >= 0; i-- {
		list = r.make(heap.KindCons, l[i], list)
	}
	return list
}
