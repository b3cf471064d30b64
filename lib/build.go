package lib

import (
	"strconv"
	"strings"

	"commonform/api"
	"commonform/forms"
	"commonform/heap"
)

// maxBytes is how many bytes an object has at most.
const maxBytes = 131072

// Build makes the object of a form.
func (w *World) Build(f api.Form) (heap.Word, api.Errno) {
	if w == nil {
		return 0, api.ErrArg
	}
	if e := forms.Check(f); e != api.OK {
		return 0, e
	}
	if e := w.checkSymbols(f); e != api.OK {
		return 0, e
	}
	n := &need{w: w, met: map[newSymbol]bool{}}
	n.add(f)
	if n.tooLong || !w.hasRoom(n.words) {
		return 0, api.ErrWords
	}
	// All symbols or none are made, so that what is refused changes nothing.
	if n.symbols > 0 && w.symbolCount()+n.symbols > api.MaxSymbols {
		return 0, api.ErrFull
	}
	b := &maker{w: w, labels: map[string]heap.Word{}, fresh: map[string]heap.Word{}}
	x := b.object(f, "")
	if b.e != api.OK {
		return 0, b.e
	}
	return x, api.OK
}

// checkSymbols returns the first error of a symbol of a form.
func (w *World) checkSymbols(f api.Form) api.Errno {
	if f.Kind == api.FormSymbol {
		if len(f.Text) > api.MaxName {
			return api.ErrSize
		}
		if f.Home != "" {
			_, e := w.want(f.Home, f.Text)
			return e
		}
	}
	for _, k := range f.Kids {
		if e := w.checkSymbols(k); e != api.OK {
			return e
		}
	}
	return api.OK
}

// A newSymbol is a symbol that will have an object: by its number, or, if it has none (-1), by its name, and the name of its home.
type newSymbol struct {
	number     int
	home, name string
}

// A need counts what the objects of a form will take.
type need struct {
	w              *World
	words, symbols int
	tooLong        bool // there are more bytes than an object has
	met            map[newSymbol]bool
}

func (n *need) add(f api.Form) {
	switch f.Kind {
	case api.FormSymbol:
		n.addSymbol(f)
	case api.FormInt, api.FormRatio, api.FormSingle, api.FormDouble, api.FormString, api.FormBits:
		if _, ok := smallInteger(f); !ok {
			n.words += rawWords(f.Text)
			n.tooLong = n.tooLong || len(f.Text) > maxBytes
		}
	case api.FormCons:
		n.words += 3 * (len(f.Kids) - 1)
	case api.FormComplex, api.FormVector:
		n.words += 1 + len(f.Kids)
	case api.FormArray:
		n.words += 3 + 1 + len(dimensionsOf(f)) + 1 + len(f.Kids)
	}
	for _, k := range f.Kids {
		n.add(k)
	}
}

// addSymbol counts a symbol that has no object, once.
func (n *need) addSymbol(f api.Form) {
	s := newSymbol{-1, "", f.Text}
	if f.Home != "" {
		found, _ := n.w.want(f.Home, f.Text)
		if _, ok := n.w.object(found.number); ok {
			return
		}
		s.number = found.number
		if found.isNew {
			pack, _ := n.w.table.Package(f.Home)
			s.home = pack.Name
		}
	}
	if n.met[s] {
		return
	}
	n.met[s] = true
	n.words += symbolWords(f.Text)
	if s.number < 0 {
		n.symbols++
	}
}

// dimensionsOf returns those of an array, in which there may be references to labels outside of it.
func dimensionsOf(f api.Form) []int {
	var dims []int
	for _, word := range strings.Fields(f.Text) {
		n, _ := strconv.Atoi(word)
		dims = append(dims, n)
	}
	return dims
}

// smallInteger returns the fixnum of a form, if it has one.
func smallInteger(f api.Form) (heap.Word, bool) {
	if f.Kind != api.FormInt || len(f.Text) > 20 {
		return 0, false
	}
	n, err := strconv.ParseInt(f.Text, 10, 64)
	if err != nil {
		return 0, false
	}
	x, e := heap.Fix(n)
	return x, e == api.OK
}

// A maker makes the objects of a form, and keeps those with labels, and the new symbols by their names. It has the first error.
type maker struct {
	w             *World
	labels, fresh map[string]heap.Word
	e             api.Errno
}

// keep takes over what a call returned.
func (b *maker) keep(x heap.Word, e api.Errno) heap.Word {
	if b.e == api.OK {
		b.e = e
	}
	return x
}

// object makes the object of a form that has a label, or none (""). Kids may come back to it, so that it has its label ahead of them.
func (b *maker) object(f api.Form, label string) heap.Word {
	var x heap.Word
	switch f.Kind {
	case api.FormLabel:
		return b.object(f.Kids[0], f.Text)
	case api.FormRef:
		return b.labels[f.Text]
	case api.FormCons:
		return b.cons(f, label)
	case api.FormArray:
		return b.array(f, label)
	case api.FormComplex, api.FormVector:
		x = b.keep(b.w.heap.New(f.Kind, len(f.Kids)))
		b.labels[label] = x
		b.fill(x, f.Kids)
		return x
	case api.FormSymbol:
		x = b.symbol(f)
	case api.FormChar:
		x = b.keep(heap.Char([]rune(f.Text)[0]))
	default:
		x = b.atom(f)
	}
	b.labels[label] = x
	return x
}

// atom makes the object of a number, a string or a bit vector.
func (b *maker) atom(f api.Form) heap.Word {
	if x, ok := smallInteger(f); ok {
		return x
	}
	return b.keep(b.w.heap.Raw(f.Kind, f.Text))
}

func (b *maker) symbol(f api.Form) heap.Word {
	if f.Home != "" {
		return b.keep(b.w.Symbol(f.Home, f.Text))
	}
	x, ok := b.fresh[f.Text]
	if !ok {
		x = b.keep(b.w.fresh(f.Text))
		b.fresh[f.Text] = x
	}
	return x
}

// fill puts the objects of forms into the fields of an object.
func (b *maker) fill(x heap.Word, kids []api.Form) {
	for i, k := range kids {
		b.set(x, i, b.object(k, ""))
	}
}

func (b *maker) set(x heap.Word, i int, value heap.Word) {
	if b.e == api.OK {
		b.e = b.w.heap.Set(x, i, value)
	}
}

// cons makes the conses of a list, from the first one on.
func (b *maker) cons(f api.Form, label string) heap.Word {
	elements, tail := f.Kids[:len(f.Kids)-1], f.Kids[len(f.Kids)-1]
	first := b.keep(b.w.heap.New(heap.KindCons, 2))
	b.labels[label] = first
	last := first
	for i, k := range elements {
		if i > 0 {
			next := b.keep(b.w.heap.New(heap.KindCons, 2))
			b.set(last, 1, next)
			last = next
		}
		b.set(last, 0, b.object(k, ""))
	}
	b.set(last, 1, b.object(tail, ""))
	return first
}

// array makes an array, a vector of its dimensions and one of its elements.
func (b *maker) array(f api.Form, label string) heap.Word {
	dims := dimensionsOf(f)
	x := b.keep(b.w.heap.New(heap.KindArray, 2))
	b.labels[label] = x
	sizes := b.keep(b.w.heap.New(heap.KindVector, len(dims)))
	for i, n := range dims {
		b.set(sizes, i, fixnum(n))
	}
	elements := b.keep(b.w.heap.New(heap.KindVector, len(f.Kids)))
	b.set(x, 0, sizes)
	b.set(x, 1, elements)
	b.fill(elements, f.Kids)
	return x
}
