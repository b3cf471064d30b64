package lib

import (
	"sort"

	"commonform/api"
	"commonform/heap"
	"commonform/symbols"
)

// The fields of the object of a symbol.
const (
	numberField = iota
	nameField
	valueField
	functionField
	listField
	symbolFields
)

const bytesInWord = 8

// rawWords is how many words an object with bytes takes.
func rawWords(bytes string) int { return 1 + (len(bytes)+bytesInWord-1)/bytesInWord }

// symbolWords is how many words the object of a symbol takes, and its name.
func symbolWords(name string) int { return 1 + symbolFields + rawWords(name) }

func (w *World) hasRoom(words int) bool { return w.heap.Used()+words <= w.heap.Limit() }

// symbolCount is how many symbols the table has.
func (w *World) symbolCount() int {
	return sort.Search(api.MaxSymbols, func(n int) bool {
		_, _, e := w.table.Symbol(n)
		return e != api.OK
	})
}

// object returns the object of a symbol, if it has one.
func (w *World) object(n int) (heap.Word, bool) {
	root, ok := w.roots[n]
	if !ok {
		return 0, false
	}
	x, e := w.heap.At(root)
	return x, e == api.OK && w.heap.Kind(x) == heap.KindSymbol
}

// makeObject makes the object of a symbol that has none. That of the symbol 0 is there: it is the first object.
func (w *World) makeObject(n int) (heap.Word, api.Errno) {
	name, home, e := w.table.Symbol(n)
	if e != api.OK {
		return 0, e
	}
	text, e := w.heap.Raw(heap.KindString, name)
	if e != api.OK {
		return 0, e
	}
	x := heap.Nil
	if n > 0 {
		if x, e = w.heap.New(heap.KindSymbol, symbolFields); e != api.OK {
			return 0, e
		}
	}
	value := heap.Unbound
	if home == keywords {
		value = x
	}
	for field, v := range []heap.Word{fixnum(n), text, value, heap.Unbound, heap.Nil} {
		w.heap.Set(x, field, v)
	}
	w.roots[n] = w.heap.Root(x)
	return x, api.OK
}

// objectOf returns the object of a symbol of the table, which is made if it has none; ErrWords, if there is no room.
func (w *World) objectOf(n int) (heap.Word, api.Errno) {
	if x, ok := w.object(n); ok {
		return x, api.OK
	}
	name, _, e := w.table.Symbol(n)
	if e != api.OK {
		return 0, e
	}
	if !w.hasRoom(symbolWords(name)) {
		return 0, api.ErrWords
	}
	return w.makeObject(n)
}

// A wanted symbol is one that is looked for under a name, and made if there is none.
type wanted struct {
	home, name     string
	number, status int
	isNew          bool
}

// want looks for a symbol. Nothing is changed.
func (w *World) want(home, name string) (wanted, api.Errno) {
	n, status, e := w.table.Find(home, name)
	return wanted{home, name, n, status, status == symbols.None}, e
}

// words returns how many words the objects of some wanted symbols will take. ErrFull, if the table has no room for those that are new.
func (w *World) words(l ...wanted) (int, api.Errno) {
	words, made := 0, 0
	for _, s := range l {
		_, ok := w.object(s.number)
		if s.isNew {
			made++
		}
		if s.isNew || !ok {
			words += symbolWords(s.name)
		}
	}
	if made > 0 && w.symbolCount()+made > api.MaxSymbols {
		return 0, api.ErrFull
	}
	return words, api.OK
}

// take returns the object of a wanted symbol, for which there is room.
func (w *World) take(s wanted) (heap.Word, api.Errno) {
	n := s.number
	if s.isNew {
		var e api.Errno
		if n, _, e = w.table.Intern(s.home, s.name); e != api.OK {
			return 0, e
		}
	}
	return w.objectOf(n)
}

// Symbol returns the object of a symbol of a package.
func (w *World) Symbol(home, name string) (heap.Word, api.Errno) {
	if w == nil {
		return 0, api.ErrArg
	}
	s, e := w.want(home, name)
	if e != api.OK {
		return 0, e
	}
	words, e := w.words(s)
	if e != api.OK {
		return 0, e
	}
	if !w.hasRoom(words) {
		return 0, api.ErrWords
	}
	return w.take(s)
}

// fresh returns the object of a new symbol without a home.
func (w *World) fresh(name string) (heap.Word, api.Errno) {
	switch {
	case len(name) > api.MaxName:
		return 0, api.ErrSize
	case w.symbolCount() == api.MaxSymbols:
		return 0, api.ErrFull
	case !w.hasRoom(symbolWords(name)):
		return 0, api.ErrWords
	}
	n, e := w.table.Fresh(name)
	if e != api.OK {
		return 0, e
	}
	return w.makeObject(n)
}

func (w *World) isSymbol(x heap.Word) bool { return w.heap.Kind(x) == heap.KindSymbol }

// Name returns the home and the name of a symbol.
func (w *World) Name(x heap.Word) (home, name string, e api.Errno) {
	if w == nil {
		return "", "", api.ErrArg
	}
	if !w.isSymbol(x) {
		return "", "", ErrNoSymbol
	}
	field, e := w.heap.Get(x, numberField)
	if e != api.OK {
		return "", "", e
	}
	n, ok := field.Fixnum()
	name, home, e = w.table.Symbol(int(n))
	if !ok || e != api.OK {
		return "", "", ErrNoSymbol
	}
	return home, name, api.OK
}

// isConstant reports whether the value of a symbol never changes.
func (w *World) isConstant(x heap.Word) bool {
	home, name, e := w.Name(x)
	return x == heap.Nil || e == api.OK && (home == keywords || home == lisp && name == "T")
}

// field returns a field of the object of a symbol.
func (w *World) field(symbol heap.Word, i int) (heap.Word, api.Errno) {
	if w == nil {
		return 0, api.ErrArg
	}
	if !w.isSymbol(symbol) {
		return 0, ErrNoSymbol
	}
	return w.heap.Get(symbol, i)
}

// setField changes a field of the object of a symbol, unless isFixed tells that it stays.
func (w *World) setField(symbol heap.Word, i int, x heap.Word, isFixed func() bool) api.Errno {
	if w == nil {
		return api.ErrArg
	}
	if !w.isSymbol(symbol) {
		return ErrNoSymbol
	}
	if isFixed() {
		return api.ErrArg
	}
	return w.heap.Set(symbol, i, x)
}

// Value returns the value of a symbol, Unbound if it has none.
func (w *World) Value(symbol heap.Word) (heap.Word, api.Errno) {
	return w.field(symbol, valueField)
}

// SetValue changes the value of a symbol; Unbound takes it away.
func (w *World) SetValue(symbol, x heap.Word) api.Errno {
	return w.setField(symbol, valueField, x, func() bool { return w.isConstant(symbol) })
}

// Function returns the function of a symbol, Unbound if it has none.
func (w *World) Function(symbol heap.Word) (heap.Word, api.Errno) {
	return w.field(symbol, functionField)
}

// SetFunction changes the function of a symbol; Unbound takes it away.
func (w *World) SetFunction(symbol, x heap.Word) api.Errno {
	return w.setField(symbol, functionField, x, func() bool { return x == heap.Unbound && w.isConstant(symbol) })
}
