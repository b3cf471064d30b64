package meaning

import (
	"slices"

	"commonform/api"
	"commonform/heap"
	"commonform/lib"
)

// Kinds of tasks.
const (
	begins = iota // the node in the environment
	gives         // the values to the innermost frame
	calls         // the function with the values
	leaves        // by the exit
)

// A task is what is done next.
type task struct {
	kind     int
	node     *node
	env      environment
	function heap.Word
	values   []heap.Word
	exit     *exit
}

func begin(n *node, env environment) task { return task{kind: begins, node: n, env: env} }

func give(values ...heap.Word) task { return task{kind: gives, values: values} }

func call(function heap.Word, args []heap.Word) task {
	return task{kind: calls, function: function, values: args}
}

// first returns the value of a form that is cut.
func first(values []heap.Word) heap.Word {
	if len(values) == 0 {
		return heap.Nil
	}
	return values[0]
}

// count counts a step.
func (r *run) count() {
	if r.steps >= r.limit {
		stopLimit(api.ErrSteps)
	}
	r.steps++
}

// loop performs one task after the other, until the values of the last frame are there, or a fault has left all frames.
func (r *run) loop(t task) lib.End {
steps:
	for {
		switch t.kind {
		case begins:
			r.count()
			t = r.begin(t.node, t.env)
		case calls:
			r.count()
			t = r.apply(t.function, t.values)
		case leaves:
			if len(r.frames) == 0 {
				return lib.End{Kind: lib.EndFault, Fault: t.exit.fault}
			}
			t = r.leave(t.exit)
		default:
			if len(r.frames) == 0 {
				break steps
			}
			t = r.resume(r.pop(), t.values)
		}
	}
	return lib.End{Kind: lib.EndValues, Values: slices.Clone(t.values)}
}

// begin begins a node.
func (r *run) begin(n *node, env environment) task {
	if n.cut() > 0 {
		r.push(&gathering{node: n, env: env})
		return begin(n.kids[0], env)
	}
	switch n.tree.Op {
	case api.CoreConst:
		return give(r.constant(n))
	case api.CoreVar:
		return give(r.get(r.find(env, n.tree.N), 0))
	case api.CoreSpecial:
		return r.special(n)
	case api.CoreFunction:
		return r.global(n, func(f heap.Word) task { return give(f) })
	case api.CoreLambda:
		return give(r.closure(n, env))
	case api.CoreProgn:
		return r.sequence(n, env, 0)
	case api.CoreLabels:
		return r.labels(n, env)
	case api.CoreBlock:
		inner, id := r.enter(n, env)
		r.push(&block{id: id})
		return begin(n.kids[0], inner)
	case api.CoreReturn:
		r.push(&returning{node: n, env: env})
		return begin(n.kids[0], env)
	case api.CoreTagbody:
		inner, id := r.enter(n, env)
		r.push(&tagbody{node: n, env: inner, id: id, next: 1})
		return begin(n.kids[0], inner)
	case api.CoreGo:
		return r.goTo(n, env)
	case api.CoreProtect:
		r.push(&protect{node: n, env: env})
		return begin(n.kids[0], env)
	case api.CoreValuesCall:
		r.push(&spreading{node: n, env: env, next: 1})
		return begin(n.kids[0], env)
	case api.CoreValuesFirst:
		r.push(&sequence{node: n, env: env, next: 1, keeps: true})
		return begin(n.kids[0], env)
	}
	// What is left binds or calls something without having any kids to be cut.
	return r.finish(n, env, nil)
}

// sequence begins a kid of a node whose last one has its values.
func (r *run) sequence(n *node, env environment, at int) task {
	if len(n.kids) == 0 {
		return give(heap.Nil)
	}
	if at < len(n.kids)-1 {
		r.push(&sequence{node: n, env: env, next: at + 1})
	}
	return begin(n.kids[at], env)
}

// resume hands values to a frame that was taken away.
func (r *run) resume(f frame, values []heap.Word) task {
	switch f := f.(type) {
	case *gathering:
		f.words = append(f.words, first(values))
		if next := len(f.words); next < f.node.cut() {
			r.push(f)
			return begin(f.node.kids[next], f.env)
		}
		return r.finish(f.node, f.env, f.words)
	case *sequence:
		return r.goOn(f, values)
	case *parameters:
		return r.initialize(f, first(values))
	case *spreading:
		return r.spread(f, values)
	case *returning:
		return r.returnFrom(f, values)
	case *throwing:
		return r.throw(f.tag, values)
	case *faulting:
		return end(f.fault)
	case *tagbody:
		return r.nextSegment(f)
	case *protect:
		r.push(&cleanup{values: values})
		return begin(f.node.kids[1], f.env)
	case *cleanup:
		if f.exit != nil {
			return task{kind: leaves, exit: f.exit}
		}
		return give(f.values...)
	case *bound:
		r.restore(f)
	}
	return give(values...)
}

// goOn goes on with the next kid of a node.
func (r *run) goOn(f *sequence, values []heap.Word) task {
	if !f.keeps {
		return r.sequence(f.node, f.env, f.next)
	}
	if f.next == 1 {
		f.kept = values
	}
	if f.next == len(f.node.kids) {
		return give(f.kept...)
	}
	f.next++
	r.push(f)
	return begin(f.node.kids[f.next-1], f.env)
}

// finish does what a node does with the first values of its kids.
func (r *run) finish(n *node, env environment, words []heap.Word) task {
	switch n.tree.Op {
	case api.CoreIf:
		if words[0] != heap.Nil {
			return begin(n.kids[1], env)
		}
		return begin(n.kids[2], env)
	case api.CoreSet:
		r.heap.Set(r.find(env, n.tree.N), 0, words[0])
		return give(words[0])
	case api.CoreSetSpecial:
		return r.setSpecial(n, words[0])
	case api.CoreCall:
		return call(words[0], words[1:])
	case api.CoreCallGlobal:
		return r.global(n, func(f heap.Word) task { return call(f, words) })
	case api.CoreLet:
		for i, v := range n.tree.Vars {
			env = r.bind(env, v, words[i])
		}
		return begin(n.last(), env)
	case api.CoreBind:
		return r.bindSpecials(n, env, words)
	case api.CoreProgv:
		return r.progv(n, env, words[0], words[1])
	case api.CoreCatch:
		r.push(&catch{tag: words[0]})
	case api.CoreThrow:
		r.push(&throwing{tag: words[0]})
	}
	return begin(n.last(), env)
}

// constant returns the object of a constant, which is made when it is run first.
func (r *run) constant(n *node) heap.Word {
	x, ok := r.constants[n]
	if !ok {
		var e api.Errno
		if x, e = r.w.Build(n.tree.Data); e != api.OK {
			refuse(e)
		}
		r.constants[n] = x
	}
	return x
}

// symbol returns the object of a symbol of the tree.
func (r *run) symbol(f api.Form) heap.Word {
	x, e := r.w.Symbol(f.Home, f.Text)
	if e != api.OK {
		refuse(e)
	}
	return x
}

// lisp returns the object of a symbol of COMMON-LISP.
func (r *run) lisp(name string) heap.Word {
	return r.symbol(api.Form{Home: lisp, Text: name})
}

func (r *run) special(n *node) task {
	symbol := r.symbol(n.tree.Data)
	x, e := r.w.Value(symbol)
	if e != api.OK || x == heap.Unbound {
		return r.fault("UNBOUND-VARIABLE", symbol)
	}
	return give(x)
}

func (r *run) setSpecial(n *node, x heap.Word) task {
	symbol := r.symbol(n.tree.Data)
	if r.w.SetValue(symbol, x) == api.ErrArg {
		return r.fault("PROGRAM-ERROR", symbol)
	}
	return give(x)
}

// global does something with the function of a symbol, if it has one.
func (r *run) global(n *node, use func(f heap.Word) task) task {
	symbol := r.symbol(n.tree.Data)
	f, e := r.w.Function(symbol)
	if e != api.OK || f == heap.Unbound {
		return r.fault("UNDEFINED-FUNCTION", symbol)
	}
	return use(f)
}

// labels makes the closures of local functions, each of which sees all of them.
func (r *run) labels(n *node, env environment) task {
	var cells []heap.Word
	for _, v := range n.tree.Vars {
		env = r.bind(env, v, heap.Nil)
		cells = append(cells, env.inner.cell)
	}
	for i, cell := range cells {
		r.count()
		r.heap.Set(cell, 0, r.closure(n.kids[i], env))
	}
	return begin(n.last(), env)
}
