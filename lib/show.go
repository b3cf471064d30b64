package lib

import (
	"strconv"
	"strings"

	"commonform/api"
	"commonform/forms"
	"commonform/heap"
)

// isWord reports whether a word is immediate, or a reference to an object.
func (w *World) isWord(x heap.Word) bool {
	if x.IsRef() {
		return w.heap.Place(x) >= 0
	}
	_, isFixnum := x.Fixnum()
	_, isCharacter := x.Character()
	return isFixnum || isCharacter || x == heap.Unbound
}

// A shower makes the form of an object. Objects with identity that are met several times have labels, from where they are met first.
type shower struct {
	w      *World
	met    map[heap.Word]int
	labels map[heap.Word]string
}

// Show returns the form of an object.
func (w *World) Show(x heap.Word) (api.Form, api.Errno) {
	if w == nil {
		return api.Form{}, api.ErrArg
	}
	if !w.isWord(x) {
		return api.Form{}, heap.ErrWord
	}
	s := &shower{w: w, met: map[heap.Word]int{}, labels: map[heap.Word]string{}}
	s.meet(x)
	f := s.form(x)
	if forms.Check(f) != api.OK {
		return api.Form{}, api.ErrSize
	}
	return f, api.OK
}

// meet counts how often each object with identity is met from a word.
func (s *shower) meet(x heap.Word) {
	for s.w.hasIdentity(x) {
		s.met[x]++
		if s.met[x] > 1 {
			return
		}
		if !s.w.isCons(x) {
			for _, part := range s.w.parts(x) {
				s.meet(part)
			}
			return
		}
		// Long lists are not deep.
		s.meet(s.w.get(x, 0))
		x = s.w.get(x, 1)
	}
}

// hasIdentity reports whether a word is a string, a bit vector, a cons, a vector or an array.
func (w *World) hasIdentity(x heap.Word) bool { return w.isCons(x) || w.isArray(x) }

// parts returns the elements of a vector or an array.
func (w *World) parts(x heap.Word) []heap.Word {
	switch w.heap.Kind(x) {
	case heap.KindVector:
		return w.fields(x)
	case heap.KindArray:
		_, elements, _ := w.arrayOf(x)
		return w.fields(elements)
	}
	return nil
}

// form makes the form of a word.
func (s *shower) form(x heap.Word) api.Form {
	if s.met[x] < 2 {
		return s.plain(x)
	}
	if label, ok := s.labels[x]; ok {
		return api.Form{Kind: api.FormRef, Text: label}
	}
	label := strconv.Itoa(len(s.labels))
	s.labels[x] = label
	return api.Form{Kind: api.FormLabel, Text: label, Kids: []api.Form{s.plain(x)}}
}

// plain makes the form of a word without its label.
func (s *shower) plain(x heap.Word) api.Form {
	if c, ok := x.Character(); ok {
		return api.Form{Kind: api.FormChar, Text: string(c)}
	}
	if f, ok := s.w.number(x); ok {
		return f
	}
	switch {
	case s.w.isCons(x):
		return s.list(x)
	case s.w.isString(x) || s.w.isBits(x):
		return api.Form{Kind: s.w.heap.Kind(x), Text: s.w.text(x)}
	case s.w.isArray(x):
		return s.array(x)
	}
	home, name, e := s.w.Name(x)
	if e == api.OK {
		return forms.Symbol(home, name)
	}
	return forms.Symbol(strange, strangeName(x, s.w.heap.Kind(x)))
}

// list makes the form of a cons, and of those behind it that are met only there.
func (s *shower) list(x heap.Word) api.Form {
	f := api.Form{Kind: api.FormCons}
	for {
		f.Kids = append(f.Kids, s.form(s.w.get(x, 0)))
		x = s.w.get(x, 1)
		if !s.w.isCons(x) || s.met[x] > 1 {
			break
		}
	}
	f.Kids = append(f.Kids, s.form(x))
	return f
}

func (s *shower) array(x heap.Word) api.Form {
	f := api.Form{Kind: s.w.heap.Kind(x)}
	if f.Kind == api.FormArray {
		dims, _, _ := s.w.arrayOf(x)
		var texts []string
		for _, n := range dims {
			texts = append(texts, strconv.Itoa(n))
		}
		f.Text = strings.Join(texts, " ")
	}
	for _, part := range s.w.parts(x) {
		f.Kids = append(f.Kids, s.form(part))
	}
	return f
}

// strangeName returns the name of what has no form.
func strangeName(x heap.Word, kind int) string {
	if x == heap.Unbound {
		return "UNBOUND"
	}
	switch kind {
	case heap.KindTable:
		return "TABLE"
	case heap.KindEntry:
		return "ENTRY"
	case heap.KindClosure, heap.KindCode:
		return "CLOSURE"
	case heap.KindBuiltin:
		return "BUILTIN"
	case heap.KindClass:
		return "CLASS"
	case heap.KindInstance:
		return "INSTANCE"
	case heap.KindGeneric:
		return "GENERIC"
	case heap.KindMethod:
		return "METHOD"
	case heap.KindWeak:
		return "WEAK"
	case heap.KindPackage:
		return "PACKAGE"
	case heap.KindBox:
		return "BOX"
	case heap.KindEphemeron:
		return "EPHEMERON"
	}
	return "OBJECT"
}
