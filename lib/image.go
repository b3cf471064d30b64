package lib

import (
	"maps"
	"slices"

	"commonform/api"
	"commonform/heap"
	"commonform/symbols"
)

// Parts is what an image has of a world: the text of its packages, its output and counter, the numbers of the symbols that have objects, and these objects.
type Parts struct {
	Table, Output string
	Counter       int
	Numbers       []int
	Words         []heap.Word
}

// Parts returns what an image needs of a world.
func (w *World) Parts() Parts {
	if w == nil {
		return Parts{}
	}
	p := Parts{Table: w.table.Text(), Output: w.output, Counter: w.counter}
	for _, n := range slices.Sorted(maps.Keys(w.roots)) {
		if x, ok := w.object(n); ok {
			p.Numbers = append(p.Numbers, n)
			p.Words = append(p.Words, x)
		}
	}
	return p
}

// Restore returns a world with some parts and objects.
func Restore(limit, young int, p Parts, cells []heap.Cell, fields []heap.Field) (*World, []heap.Word, api.Errno) {
	t, e := p.check(len(fields))
	if e != api.OK {
		return nil, nil, e
	}
	h, e := heap.New(limit, young)
	if e != api.OK {
		return nil, nil, e
	}
	words, e := h.Lay(cells, fields)
	if e != api.OK {
		return nil, nil, e
	}
	w := newWorld(h, t)
	w.output, w.counter = p.Output, p.Counter
	objects, rest := words[:len(p.Numbers)], words[len(p.Numbers):]
	for i, x := range rest[:symbolFields] {
		h.Set(heap.Nil, i, x)
	}
	for i, n := range p.Numbers {
		if !w.isObjectOf(objects[i], n) {
			return nil, nil, ErrNoSymbol
		}
		w.roots[n] = h.Root(objects[i])
	}
	return w, rest[symbolFields:], api.OK
}

// check returns the table of some parts, or their error.
func (p Parts) check(fields int) (*symbols.Table, api.Errno) {
	t, e := symbols.Parse(p.Table)
	if e != api.OK {
		return nil, api.ErrForm
	}
	if len(p.Output) > api.MaxOutput {
		return nil, api.ErrLarge
	}
	if p.Counter < 0 || len(p.Numbers) == 0 || p.Numbers[0] != 0 || fields < len(p.Numbers)+symbolFields {
		return nil, api.ErrArg
	}
	last := -1
	for _, n := range p.Numbers {
		if _, _, e := t.Symbol(n); e != api.OK || n <= last {
			return nil, api.ErrArg
		}
		last = n
	}
	return t, api.OK
}

// isObjectOf reports whether a word is the object of a symbol: with its number and its name, and the first object just for the symbol 0.
func (w *World) isObjectOf(x heap.Word, n int) bool {
	if !w.isSymbol(x) || (x == heap.Nil) != (n == 0) {
		return false
	}
	number, e := w.heap.Get(x, numberField)
	if e != api.OK || number != fixnum(n) {
		return false
	}
	text, e := w.heap.Get(x, nameField)
	name, _, _ := w.table.Symbol(n)
	return e == api.OK && w.isString(text) && w.text(text) == name
}
