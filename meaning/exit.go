package meaning

import (
	"slices"

	"commonform/api"
	"commonform/heap"
	"commonform/lib"
)

// An exit leads to a frame, by its index: to a block or a catch with values, or to a segment of a tagbody; or out of all frames with a fault.
type exit struct {
	target  int
	values  []heap.Word
	segment int
	fault   lib.Fault
}

// outside is the target of an exit out of all frames.
const outside = -1

// end leaves all frames with a fault.
func end(f lib.Fault) task {
	return task{kind: leaves, exit: &exit{target: outside, fault: f}}
}

// leave takes frames away, up to the one to which an exit leads, or up to a cleanup that is run ahead of going on.
func (r *run) leave(x *exit) task {
	for len(r.frames)-1 > x.target {
		switch f := r.pop().(type) {
		case *protect:
			r.push(&cleanup{exit: x})
			return begin(f.node.kids[1], f.env)
		case *bound:
			r.restore(f)
		}
	}
	if x.target == outside {
		return task{kind: leaves, exit: x}
	}
	if t, ok := r.frames[x.target].(*tagbody); ok {
		t.next = x.segment + 1
		return begin(t.node.kids[x.segment], t.env)
	}
	// A block and a catch hand on the values.
	return give(x.values...)
}

// target returns the index of the innermost frame that is wanted, -1 if there is none.
func (r *run) target(isWanted func(f frame) bool) int {
	for i := len(r.frames) - 1; i >= 0; i-- {
		if isWanted(r.frames[i]) {
			return i
		}
	}
	return -1
}

// cross ends a run that is a part of another one, to which an exit may lead.
func (r *run) cross(isOwn bool) {
	if r.level > 0 && !isOwn {
		stopLimit(ErrCross)
	}
}

// exitTo leaves to the block or the tagbody with a number.
func (r *run) exitTo(id int64, x exit) task {
	x.target = r.target(func(f frame) bool {
		switch f := f.(type) {
		case *block:
			return f.id == id
		case *tagbody:
			return f.id == id
		}
		return false
	})
	if x.target < 0 {
		r.cross(id>>serialShift == r.number)
		return r.fault("CONTROL-ERROR")
	}
	return task{kind: leaves, exit: &x}
}

func (r *run) returnFrom(f *returning, values []heap.Word) task {
	return r.exitTo(r.entered(f.node, f.env), exit{values: values})
}

func (r *run) goTo(n *node, env environment) task {
	return r.exitTo(r.entered(n, env), exit{segment: n.segment})
}

func (r *run) throw(tag heap.Word, values []heap.Word) task {
	x := exit{values: values}
	x.target = r.target(func(f frame) bool {
		c, ok := f.(*catch)
		return ok && r.eql(c.tag, tag)
	})
	if x.target < 0 {
		r.cross(false)
		return r.fault("CONTROL-ERROR", tag)
	}
	return task{kind: leaves, exit: &x}
}

// eql reports whether two words are the same, or equal numbers.
func (r *run) eql(a, b heap.Word) bool {
	if a == b {
		return true
	}
	kind := r.heap.Kind(a)
	if kind < heap.KindInt || kind > heap.KindComplex || kind != r.heap.Kind(b) {
		return false
	}
	f, e := r.w.Show(a)
	g, e2 := r.w.Show(b)
	return e == api.OK && e2 == api.OK && isEqual(f, g)
}

// isEqual reports whether the forms of two numbers are equal.
func isEqual(f, g api.Form) bool {
	if f.Kind != g.Kind || f.Text != g.Text || len(f.Kids) != len(g.Kids) {
		return false
	}
	for i := range f.Kids {
		if !isEqual(f.Kids[i], g.Kids[i]) {
			return false
		}
	}
	return true
}

func (r *run) nextSegment(f *tagbody) task {
	if f.next == len(f.node.kids) {
		return give(heap.Nil)
	}
	f.next++
	r.push(f)
	return begin(f.node.kids[f.next-1], f.env)
}

// fault calls the function of %FAULT where the fault happened, if there is one, and otherwise leaves with it.
func (r *run) fault(condition string, data ...heap.Word) task {
	f := lib.Fault{Type: condition, Data: slices.Clone(data)}
	handler, ok := r.handler()
	if !ok {
		return end(f)
	}
	r.push(&faulting{fault: f})
	return call(handler, []heap.Word{r.lisp(condition), r.newList(data)})
}

// handler returns the function of %FAULT, if it has one. The symbol is not made for that.
func (r *run) handler() (heap.Word, bool) {
	const name = "%FAULT"
	if n, _, e := r.w.Symbols().Find(lisp, name); e != api.OK || n < 0 {
		return 0, false
	}
	symbol, e := r.w.Symbol(lisp, name)
	if e != api.OK {
		return 0, false
	}
	f, _ := r.w.Function(symbol)
	switch r.heap.Kind(f) {
	case heap.KindBuiltin, heap.KindClosure, heap.KindCode:
		return f, true
	}
	return 0, false
}

// bindSpecials gives the symbols of a node their values, around its body.
func (r *run) bindSpecials(n *node, env environment, values []heap.Word) task {
	var symbols []heap.Word
	for _, f := range n.tree.Syms {
		symbols = append(symbols, r.symbol(f))
	}
	return r.bindAll(n, env, symbols, values)
}

// bindAll gives symbols their values around the last kid of a node; a symbol without a value is without one.
func (r *run) bindAll(n *node, env environment, symbols, values []heap.Word) task {
	for _, s := range symbols {
		old, _ := r.w.Value(s)
		// What a symbol has is taken just by one that may change.
		if r.w.SetValue(s, old) == api.ErrArg {
			return r.fault("PROGRAM-ERROR", s)
		}
	}
	f := &bound{}
	r.push(f)
	for i, s := range symbols {
		old, _ := r.w.Value(s)
		f.symbols, f.old = append(f.symbols, s), append(f.old, old)
		value := heap.Unbound
		if i < len(values) {
			value = values[i]
		}
		r.w.SetValue(s, value)
	}
	return begin(n.last(), env)
}

// restore gives symbols back what they had, the last one first.
func (r *run) restore(f *bound) {
	for i := len(f.symbols) - 1; i >= 0; i-- {
		r.w.SetValue(f.symbols[i], f.old[i])
	}
}

func (r *run) progv(n *node, env environment, symbols, values heap.Word) task {
	names, ok := r.elements(symbols)
	if !ok {
		return r.fault("TYPE-ERROR", symbols, r.lisp("LIST"))
	}
	words, ok := r.elements(values)
	if !ok {
		return r.fault("TYPE-ERROR", values, r.lisp("LIST"))
	}
	for _, s := range names {
		if r.heap.Kind(s) != heap.KindSymbol {
			return r.fault("TYPE-ERROR", s, r.lisp("SYMBOL"))
		}
	}
	return r.bindAll(n, env, names, words)
}
