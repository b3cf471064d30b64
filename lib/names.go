package lib

import (
	"slices"
	"strconv"

	"commonform/api"
	"commonform/heap"
	"commonform/symbols"
)

func (w *World) onSymbols() map[string]body {
	return map[string]body{
		"SYMBOL-NAME": one(func(a []heap.Word) heap.Word {
			_, name := w.nameOf(a[0])
			return w.string(name)
		}),
		"SYMBOL-PACKAGE": one(func(a []heap.Word) heap.Word {
			home, _ := w.nameOf(a[0])
			if home == "" {
				return heap.Nil
			}
			return w.string(home)
		}),
		"SYMBOL-VALUE": one(func(a []heap.Word) heap.Word { return w.there(a[0], valueField, "UNBOUND-VARIABLE") }),
		"SET":          one(func(a []heap.Word) heap.Word { return w.setValue(a[0], a[1]) }),
		"BOUNDP":       w.predicate(func(a []heap.Word) bool { return w.get(a[0], valueField) != heap.Unbound }),
		"MAKUNBOUND": one(func(a []heap.Word) heap.Word {
			w.setValue(a[0], heap.Unbound)
			return a[0]
		}),
		"SYMBOL-PLIST": one(func(a []heap.Word) heap.Word { return w.get(a[0], listField) }),
		"%SET-PLIST": one(func(a []heap.Word) heap.Word {
			w.heap.Set(a[0], listField, a[1])
			return a[1]
		}),
	}
}

func (w *World) onFunctions() map[string]body {
	return map[string]body{
		"SYMBOL-FUNCTION": one(func(a []heap.Word) heap.Word { return w.there(a[0], functionField, "UNDEFINED-FUNCTION") }),
		"%FSET": one(func(a []heap.Word) heap.Word {
			f := a[1]
			if w.isSymbol(f) {
				f = w.there(f, functionField, "UNDEFINED-FUNCTION")
			}
			w.heap.Set(a[0], functionField, f)
			return f
		}),
		"FBOUNDP": w.predicate(func(a []heap.Word) bool { return w.get(a[0], functionField) != heap.Unbound }),
		"FMAKUNBOUND": one(func(a []heap.Word) heap.Word {
			w.heap.Set(a[0], functionField, heap.Unbound)
			return a[0]
		}),
	}
}

// nameOf returns the home and the name of a symbol; of an object that only looks like one it is none.
func (w *World) nameOf(symbol heap.Word) (home, name string) {
	home, name, e := w.Name(symbol)
	if e != api.OK {
		w.failType(symbol, "SYMBOL")
	}
	return home, name
}

// there returns the value or the function of a symbol, if it has one.
func (w *World) there(symbol heap.Word, field int, condition string) heap.Word {
	x := w.get(symbol, field)
	if x == heap.Unbound {
		w.fail(condition, symbol)
	}
	return x
}

func (w *World) setValue(symbol, x heap.Word) heap.Word {
	if w.SetValue(symbol, x) == api.ErrArg {
		w.fail("PROGRAM-ERROR", symbol)
	}
	return x
}

func (w *World) onPackages() map[string]body {
	return map[string]body{
		"INTERN":      func(a []heap.Word) []heap.Word { return w.found(a, true) },
		"FIND-SYMBOL": func(a []heap.Word) []heap.Word { return w.found(a, false) },
		"MAKE-SYMBOL": one(func(a []heap.Word) heap.Word {
			x, e := w.fresh(w.text(a[0]))
			w.checkPackage(e, a, "")
			return x
		}),
		"GENSYM": one(func(a []heap.Word) heap.Word {
			const usual = "G"
			prefix := usual
			if len(a) > 0 {
				prefix = w.text(a[0])
			}
			x, e := w.fresh(prefix + strconv.Itoa(w.counter))
			w.checkPackage(e, a, usual)
			w.counter++
			return x
		}),
	}
}

// checkPackage fails with the fault for an error of layer 10, with the last argument, or a new string if there is none.
func (w *World) checkPackage(e api.Errno, a []heap.Word, usual string) {
	switch {
	case e == api.OK:
	case e == api.ErrWords:
		panic(limit(e))
	case len(a) > 0:
		w.fail("PACKAGE-ERROR", a[len(a)-1])
	default:
		w.fail("PACKAGE-ERROR", w.string(usual))
	}
}

// found returns the symbol of a name in a package, and its status. It is made if there is none, and makes is set; all room is found ahead of that.
func (w *World) found(a []heap.Word, makes bool) []heap.Word {
	pack := user
	if len(a) > 1 {
		pack = w.text(a[1])
	}
	s, e := w.want(pack, w.text(a[0]))
	w.checkPackage(e, a[1:], user)
	if s.isNew && !makes {
		return values(heap.Nil, heap.Nil)
	}
	all := []wanted{s}
	if !s.isNew {
		status, e := w.want(keywords, statusName(s.status))
		w.checkPackage(e, a[1:], user)
		all = append(all, status)
	}
	words, e := w.words(all...)
	w.checkPackage(e, a[1:], user)
	if !w.hasRoom(words) {
		panic(limit(api.ErrWords))
	}
	l := values()
	for _, s := range all {
		x, e := w.take(s)
		must(e)
		l = append(l, x)
	}
	if s.isNew {
		l = append(l, heap.Nil)
	}
	return l
}

func statusName(status int) string {
	switch status {
	case symbols.External:
		return "EXTERNAL"
	case symbols.Inherited:
		return "INHERITED"
	}
	return "INTERNAL"
}

// canExport returns ErrClash if a symbol of COMMON-LISP could not be exported.
func (w *World) canExport(s wanted) api.Errno {
	pack, _ := w.table.Package(lisp)
	for _, name := range pack.UsedBy {
		n, status, _ := w.table.Find(name, s.name)
		if status == symbols.None || n == s.number {
			continue
		}
		using, _ := w.table.Package(name)
		if !slices.Contains(using.Shadowing, n) {
			return symbols.ErrClash
		}
	}
	return api.OK
}
