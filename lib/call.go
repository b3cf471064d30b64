package lib

import (
	"maps"
	"slices"
	"strings"

	"commonform/api"
	"commonform/heap"
	"commonform/table"
)

// A body is what a builtin function does: it returns values for arguments of the right types, or panics with a Fault or a limit.
type body func(args []heap.Word) []heap.Word

// A builtin is a builtin function. One that was registered has its own answer, all others a body, but for those that hand arguments on to another function.
type builtin struct {
	signature
	counts     arity
	body       body
	registered func(args []heap.Word) Answer
}

// A limit is the panic of a builtin function for which there is no room.
type limit api.Errno

// apply is the name of the function that hands on the elements of a list.
const apply = "APPLY"

// mostHanded is how many words are handed on in one call, from function to function. Only a function that goes on without end hands on more.
const mostHanded = 4000000

// bodies returns the bodies of all builtin functions, by their names.
func (w *World) bodies() map[string]body {
	all := map[string]body{}
	for _, part := range []map[string]body{
		w.onConses(), w.onLists(), w.onSameness(), w.onKinds(), w.onNumbers(), w.onOrder(), w.onQuotients(), w.onIntegers(), w.onParts(), w.onSymbols(), w.onFunctions(), w.onPackages(),
		w.onCharacters(), w.onStrings(), w.onArrays(), w.onTables(), w.onTypes(), w.onOutput(), w.onTexts(),
	} {
		maps.Copy(all, part)
	}
	return all
}

// values returns the words as a list.
func values(l ...heap.Word) []heap.Word { return l }

// one makes the body of a function with one value.
func one(f func(a []heap.Word) heap.Word) body {
	return func(a []heap.Word) []heap.Word { return values(f(a)) }
}

// Call calls a function.
func (w *World) Call(function heap.Word, args []heap.Word) (a Answer) {
	if w == nil {
		return Answer{Kind: AnswerLimit, Code: api.ErrArg}
	}
	for _, x := range append([]heap.Word{function}, args...) {
		if !w.isWord(x) {
			return Answer{Kind: AnswerLimit, Code: heap.ErrWord}
		}
	}
	defer func() {
		if x := recover(); x != nil {
			a = answerOf(x)
		}
	}()
	return w.call(function, slices.Clone(args))
}

// answerOf returns the answer of a builtin function that panicked.
func answerOf(x any) Answer {
	if f, ok := x.(Fault); ok {
		return Answer{Kind: AnswerFault, Fault: f}
	}
	if e, ok := x.(limit); ok {
		return Answer{Kind: AnswerLimit, Code: api.Errno(e)}
	}
	// A function that somebody registered has failed: nobody above may fail with it.
	return Answer{Kind: AnswerLimit, Code: api.ErrArg}
}

// call calls a function, and those to which arguments are handed on.
func (w *World) call(function heap.Word, args []heap.Word) Answer {
	for left := mostHanded; left > 0; left-- {
		function = w.functionOf(function)
		if w.heap.Kind(function) != heap.KindBuiltin {
			return Answer{Kind: AnswerNext, Function: function, Values: args}
		}
		b := w.builtins[w.index(function)]
		if !b.counts.takes(len(args)) {
			w.fail("PROGRAM-ERROR", w.lisp(b.name))
		}
		if b.registered != nil {
			return b.registered(args)
		}
		w.checkTypes(b.signature, args)
		if b.body != nil {
			return Answer{Kind: AnswerValues, Values: b.body(args)}
		}
		function = w.functionOf(args[0])
		args = args[1:]
		if b.name == apply {
			args = w.spread(args)
			left -= len(args)
		}
	}
	panic(limit(api.ErrDepth))
}

// functionOf returns the function of a symbol, or the function itself.
func (w *World) functionOf(x heap.Word) heap.Word {
	f := x
	if w.isSymbol(x) {
		f = w.get(x, functionField)
		if f == heap.Unbound {
			w.fail("UNDEFINED-FUNCTION", x)
		}
	}
	if !w.isFunction(f) || w.heap.Kind(f) == heap.KindBuiltin && w.index(f) < 0 {
		w.failType(f, "FUNCTION")
	}
	return f
}

// index returns the index of a builtin function, -1 if the object has none.
func (w *World) index(f heap.Word) int {
	x, e := w.heap.Get(f, 0)
	n, ok := x.Fixnum()
	if e != api.OK || !ok || n < 0 || n >= int64(len(w.builtins)) {
		return -1
	}
	return int(n)
}

// spread returns arguments with the elements of the last one in the place of it.
func (w *World) spread(args []heap.Word) []heap.Word {
	last := args[len(args)-1]
	if !w.isProper(last) {
		w.failType(last, "LIST")
	}
	return append(slices.Clone(args[:len(args)-1]), w.elements(last)...)
}

// checkTypes looks at the types of arguments.
func (w *World) checkTypes(s signature, args []heap.Word) {
	typed := len(args)
	if s.rest == 'x' && s.last == 0 {
		typed = min(typed, len(s.required))
	}
	for i, x := range args[:typed] {
		if letter := s.typeOf(i, len(args)); letter != 'x' && !w.isOf(letter, x) {
			w.failType(x, typeName(letter))
		}
	}
}

// isOf reports whether a word is of the type with a letter.
func (w *World) isOf(letter byte, x heap.Word) bool {
	switch letter {
	case 'l':
		return w.isList(x)
	case 'p':
		return w.isProper(x)
	case 'q':
		return w.isSequence(x)
	case 's':
		return w.isSymbol(x)
	case 'n', 'r', 'a', 'i', 'k':
		return w.isNumber(letter, x)
	case 'c':
		_, ok := x.Character()
		return ok
	case 't':
		return w.isString(x)
	case 'v':
		return w.isArray(x)
	case 'h':
		return w.isTable(x)
	case 'd':
		return w.isCons(x)
	}
	return w.isFunction(x) || w.isSymbol(x)
}

// isNumber reports whether a word is a number of the type with a letter.
func (w *World) isNumber(letter byte, x heap.Word) bool {
	f, ok := w.number(x)
	if !ok {
		return false
	}
	switch letter {
	case 'r':
		return f.Kind != api.FormComplex
	case 'a':
		return f.Kind <= api.FormRatio
	case 'i':
		return f.Kind == api.FormInt
	case 'k':
		return f.Kind == api.FormInt && !strings.HasPrefix(f.Text, "-")
	}
	return true
}

func (w *World) isTable(x heap.Word) bool {
	_, _, e := table.Test(w.heap, x)
	return e == api.OK
}

// fail panics with a fault.
func (w *World) fail(condition string, data ...heap.Word) {
	panic(Fault{condition, data})
}

// failType panics with the fault of a word that is not of a type.
func (w *World) failType(x heap.Word, name string) {
	w.fail("TYPE-ERROR", x, w.lisp(name))
}

// must panics with the code of what has no room; an object that is larger than any can be has none either.
func must(e api.Errno) {
	switch e {
	case api.OK:
	case api.ErrArg:
		panic(limit(api.ErrWords))
	default:
		panic(limit(e))
	}
}

// lisp returns the object of a symbol of COMMON-LISP.
func (w *World) lisp(name string) heap.Word {
	x, e := w.Symbol(lisp, name)
	must(e)
	return x
}

// truth returns T or NIL.
func (w *World) truth(is bool) heap.Word {
	if is {
		return w.lisp("T")
	}
	return heap.Nil
}

// raw makes an object with bytes.
func (w *World) raw(kind int, bytes string) heap.Word {
	x, e := w.heap.Raw(kind, bytes)
	must(e)
	return x
}

func (w *World) string(s string) heap.Word { return w.raw(heap.KindString, s) }

// make makes an object with fields.
func (w *World) make(kind int, fields ...heap.Word) heap.Word {
	x, e := w.heap.New(kind, len(fields))
	must(e)
	for i, y := range fields {
		w.heap.Set(x, i, y)
	}
	return x
}

// list makes a list with a tail, from its end on.
func (w *World) list(l []heap.Word, tail heap.Word) heap.Word {
	for _, x := range slices.Backward(l) {
		tail = w.make(heap.KindCons, x, tail)
	}
	return tail
}

// Register adds a builtin function.
func (w *World) Register(name string, least, most int, f func(args []heap.Word) Answer) api.Errno {
	if w == nil {
		return api.ErrArg
	}
	if slices.ContainsFunc(w.builtins, func(b builtin) bool { return b.name == name }) {
		return api.ErrTwice
	}
	if f == nil || least < 0 {
		return api.ErrArg
	}
	s, e := w.want(lisp, name)
	if e != api.OK {
		return e
	}
	words, e := w.words(s)
	if e != api.OK {
		return e
	}
	if !w.hasRoom(words + 2) {
		return api.ErrWords
	}
	if e := w.canExport(s); e != api.OK {
		return e
	}
	symbol, e := w.take(s)
	if e != api.OK {
		return e
	}
	n, _, _ := w.table.Find(lisp, name)
	w.table.Export(lisp, n)
	w.builtins = append(w.builtins, builtin{signature: signature{name: name}, counts: arity{least, most}, registered: f})
	return w.setBuiltin(symbol, len(w.builtins)-1)
}
