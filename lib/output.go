package lib

import (
	"commonform/api"
	"commonform/format"
	"commonform/forms"
	"commonform/heap"
	"commonform/printer"
	"commonform/reader"
	"commonform/types"
)

func (w *World) onTypes() map[string]body {
	return map[string]body{
		"TYPEP":    w.predicate(func(a []heap.Word) bool { return w.isOfType(a[0], a[1]) }),
		"SUBTYPEP": func(a []heap.Word) []heap.Word { return w.isSubtype(a[0], a[1]) },
		"VALUES":   func(a []heap.Word) []heap.Word { return a },
		"IDENTITY": one(func(a []heap.Word) heap.Word { return a[0] }),
	}
}

// typeOf returns the form of a type specifier.
func (w *World) typeOf(x heap.Word) api.Form {
	f := w.formOf(x)
	if types.Check(f) != api.OK {
		w.fail("SIMPLE-ERROR", x)
	}
	return f
}

// isOfType reports whether an object is of a type. What has labels is known by its kind alone.
func (w *World) isOfType(x, t heap.Word) bool {
	specifier := w.typeOf(t)
	is, e := types.Typep(w.formOf(x), specifier)
	if e == api.OK {
		return is
	}
	f := forms.Symbol(strange, "OBJECT")
	if w.isCons(x) {
		f = forms.Dotted([]api.Form{f}, f)
	}
	is, _ = types.Typep(f, specifier)
	return is
}

func (w *World) isSubtype(x, y heap.Word) []heap.Word {
	a := w.typeOf(x)
	b := w.typeOf(y)
	is, _, _ := types.Subtypep(a, b)
	return values(w.truth(is), w.truth(true))
}

// printed returns what is printed of an object.
func (w *World) printed(x heap.Word, escape bool) string {
	o := printer.Standard(user)
	o.Uses = []string{lisp}
	o.Circle = true
	o.Escape = escape
	s, e := printer.Print(o, w.formOf(x))
	if e != api.OK {
		w.fail("SIMPLE-ERROR", x)
	}
	return s
}

// put prints a text, and returns a value.
func (w *World) put(s string, x heap.Word) heap.Word {
	must(w.Print(s))
	return x
}

func (w *World) onOutput() map[string]body {
	return map[string]body{
		"PRIN1":        one(func(a []heap.Word) heap.Word { return w.put(w.printed(a[0], true), a[0]) }),
		"PRINC":        one(func(a []heap.Word) heap.Word { return w.put(w.printed(a[0], false), a[0]) }),
		"PRINT":        one(func(a []heap.Word) heap.Word { return w.put("\n"+w.printed(a[0], true)+" ", a[0]) }),
		"TERPRI":       one(func([]heap.Word) heap.Word { return w.put("\n", heap.Nil) }),
		"WRITE-STRING": one(func(a []heap.Word) heap.Word { return w.put(w.text(a[0]), a[0]) }),
	}
}

func (w *World) onTexts() map[string]body {
	return map[string]body{
		"PRIN1-TO-STRING":  one(func(a []heap.Word) heap.Word { return w.string(w.printed(a[0], true)) }),
		"PRINC-TO-STRING":  one(func(a []heap.Word) heap.Word { return w.string(w.printed(a[0], false)) }),
		"READ-FROM-STRING": one(func(a []heap.Word) heap.Word { return w.readObject(a[0]) }),
		"FORMAT":           one(w.formatted),
	}
}

func (w *World) readObject(text heap.Word) heap.Word {
	r, _, e := reader.One(reader.Standard(user), w.text(text))
	var x heap.Word
	if e == api.OK {
		x, e = w.Build(r.Form)
	}
	switch e {
	case api.OK:
		return x
	case api.ErrWords:
		panic(limit(e))
	}
	w.fail("PARSE-ERROR", text)
	return 0
}

func (w *World) formatted(a []heap.Word) heap.Word {
	var l []api.Form
	for _, x := range a[2:] {
		l = append(l, w.formOf(x))
	}
	s, e := format.Format(w.text(a[1]), l)
	if e != api.OK {
		w.fail("SIMPLE-ERROR", a[1])
	}
	if a[0] == heap.Nil {
		return w.string(s)
	}
	return w.put(s, heap.Nil)
}
