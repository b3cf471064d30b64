package table

import (
	"slices"
	"strconv"

	"commonform/api"
	"commonform/heap"
	"commonform/number"
)

// A view sees the objects of a heap as a test does.
type view struct {
	heap *heap.Heap
	test int
}

// Sorts of words, by what a test looks at.
const (
	whole = iota // no parts
	pair
	array
)

// A shape is what a test looks at in a word: words are the same if their shapes are, and all parts are.
type shape struct {
	sort        int
	dims, parts []heap.Word
}

func (s shape) fits(other shape) bool {
	return s.sort != whole && s.sort == other.sort && slices.Equal(s.dims, other.dims) && len(s.parts) == len(other.parts)
}

// shape returns what a test looks at in a word. An object that is not made as its kind wants is whole.
func (v view) shape(w heap.Word) shape {
	kind := v.heap.Kind(w)
	switch {
	case v.test >= EqualTest && kind == heap.KindCons:
		if parts, ok := v.fields(w); ok && len(parts) == 2 {
			return shape{sort: pair, parts: parts}
		}
	case v.test < EqualpTest:
	case kind == heap.KindString:
		if text, e := v.heap.Bytes(w); e == api.OK {
			return line(characters(text))
		}
	case kind == heap.KindBits:
		if text, e := v.heap.Bytes(w); e == api.OK {
			return line(bits(text))
		}
	case kind == heap.KindVector:
		if elements, ok := v.fields(w); ok {
			return line(elements)
		}
	case kind == heap.KindArray:
		return v.arrayShape(w)
	}
	return shape{}
}

// line is the shape of an array with one dimension.
func line(elements []heap.Word) shape {
	return shape{array, []heap.Word{fix(len(elements))}, elements}
}

func characters(text string) []heap.Word {
	var l []heap.Word
	for _, c := range text {
		w, _ := heap.Char(c)
		l = append(l, w)
	}
	return l
}

func bits(text string) []heap.Word {
	var l []heap.Word
	for _, b := range []byte(text) {
		bit := 0
		if b == '1' {
			bit = 1
		}
		l = append(l, fix(bit))
	}
	return l
}

func (v view) arrayShape(w heap.Word) shape {
	halves, _ := v.fields(w)
	if len(halves) != 2 || v.heap.Kind(halves[0]) != heap.KindVector || v.heap.Kind(halves[1]) != heap.KindVector {
		return shape{}
	}
	dims, ok := v.fields(halves[0])
	elements, also := v.fields(halves[1])
	if !ok || !also {
		return shape{}
	}
	return shape{array, dims, elements}
}

// fields returns the fields of an object, if it has fields.
func (v view) fields(w heap.Word) ([]heap.Word, bool) {
	if _, e := v.heap.Get(w, 0); e != api.OK {
		return nil, e == api.ErrRange
	}
	l := make([]heap.Word, v.heap.Len(w))
	for i := range l {
		l[i] = v.get(w, i)
	}
	return l, true
}

// form returns the form of what may be a number.
func (v view) form(w heap.Word) (api.Form, bool) {
	if n, ok := w.Fixnum(); ok {
		return api.Form{Kind: api.FormInt, Text: strconv.FormatInt(n, 10)}, true
	}
	switch kind := v.heap.Kind(w); kind {
	case heap.KindInt, heap.KindRatio, heap.KindSingle, heap.KindDouble:
		text, e := v.heap.Bytes(w)
		return api.Form{Kind: kind, Text: text}, e == api.OK
	case heap.KindComplex:
		return v.complexForm(w)
	}
	return api.Form{}, false
}

func (v view) complexForm(w heap.Word) (api.Form, bool) {
	parts, _ := v.fields(w)
	if len(parts) != 2 {
		return api.Form{}, false
	}
	f := api.Form{Kind: api.FormComplex}
	for _, part := range parts {
		if v.heap.Kind(part) == heap.KindComplex { // a number has none within, and there may be circles of them
			return api.Form{}, false
		}
		kid, ok := v.form(part)
		if !ok {
			return api.Form{}, false
		}
		f.Kids = append(f.Kids, kid)
	}
	return f, true
}

// agree reports whether two words are the same by their values alone.
func (v view) agree(a, b heap.Word) bool {
	switch {
	case a == b:
		return true
	case v.test == Eq:
		return false
	case !a.IsRef() && !b.IsRef():
		return v.test == EqualpTest && fold(a) == fold(b)
	case v.agreeByBytes(a, b):
		return true
	}
	x, ok := v.form(a)
	if !ok {
		return false
	}
	y, ok := v.form(b)
	if !ok {
		return false
	}
	return v.agreeAsNumbers(x, y)
}

// differ reports whether two conses, or vectors, are not the same by a part that is immediate: most that are asked for differ so.
func (v view) differ(a, b heap.Word) bool {
	kind := v.heap.Kind(a)
	if kind != v.heap.Kind(b) || kind != heap.KindCons && kind != heap.KindVector {
		return false
	}
	for i := 0; ; i++ {
		x, e := v.heap.Get(a, i)
		y, also := v.heap.Get(b, i)
		if e != api.OK || also != api.OK {
			return false
		}
		if (!x.IsRef() || !y.IsRef()) && !v.agree(x, y) {
			return true
		}
	}
}

// agreeAsNumbers reports whether two forms are numbers that are the same.
func (v view) agreeAsNumbers(x, y api.Form) bool {
	same, _ := number.Eql(x, y)
	if v.test == EqualpTest {
		same, _ = number.Equals(x, y)
	}
	return same
}

// agreeByBytes reports whether two words are strings, or bit vectors, that the test compares as texts.
func (v view) agreeByBytes(a, b heap.Word) bool {
	kind := v.heap.Kind(a)
	if v.test < EqualTest || kind != heap.KindString && kind != heap.KindBits || v.heap.Kind(b) != kind || v.heap.Len(a) != v.heap.Len(b) {
		return false
	}
	x, e := v.heap.Bytes(a)
	y, also := v.heap.Bytes(b)
	return e == api.OK && also == api.OK && x == y
}

// fold makes a small letter of a great one.
func fold(w heap.Word) heap.Word {
	if c, ok := w.Character(); ok && c >= 'A' && c <= 'Z' {
		w, _ = heap.Char(c - 'A' + 'a')
	}
	return w
}

// isChangeable reports whether the test looks at fields of an object, so that it may be the same as another one when others have changed it.
func (v view) isChangeable(w heap.Word) bool {
	if _, e := v.heap.Get(w, 0); e != api.OK {
		return false
	}
	switch v.heap.Kind(w) {
	case heap.KindComplex:
		return v.test >= EqlTest
	case heap.KindCons:
		return v.test >= EqualTest
	case heap.KindVector, heap.KindArray:
		return v.test >= EqualpTest
	}
	return false
}

// A relation is what was taken as the same so far, until it turns out otherwise: then nothing is.
type relation struct {
	view
	marks   map[[2]heap.Word]bool
	leaders map[heap.Word]heap.Word // of what is the same as others, so that circles of m and n objects take m + n marks, not m times n
}

// areSame reports whether two words are the same by the test.
func (v view) areSame(a, b heap.Word) bool {
	r := relation{view: v}
	return r.areSame(a, b)
}

func (r *relation) areSame(a, b heap.Word) bool {
	switch {
	case !a.IsRef() || !b.IsRef():
		return r.agree(a, b)
	case a == b || r.isMarked(a, b):
		return true
	case r.differ(a, b):
		return false
	case r.agree(a, b):
		r.mark(a, b) // long numbers take their time
		return true
	}
	x := r.shape(a)
	y := r.shape(b)
	if !x.fits(y) {
		return false
	}
	r.mark(a, b)
	for i, part := range x.parts {
		if !r.areSame(part, y.parts[i]) {
			return false
		}
	}
	return true
}

// isMarked reports whether two objects were taken as the same, directly or through others.
func (r *relation) isMarked(a, b heap.Word) bool {
	return r.marks[[2]heap.Word{a, b}] || r.leader(a) == r.leader(b)
}

// mark takes two objects as the same.
func (r *relation) mark(a, b heap.Word) {
	if r.marks == nil {
		r.marks = map[[2]heap.Word]bool{}
		r.leaders = map[heap.Word]heap.Word{}
	}
	r.marks[[2]heap.Word{a, b}] = true
	r.leaders[r.leader(a)] = r.leader(b)
}

// leader returns the object that stands for all that are the same as one, and shortens the way to it.
func (r *relation) leader(w heap.Word) heap.Word {
	for {
		next, ok := r.leaders[w]
		if !ok {
			return w
		}
		if far, ok := r.leaders[next]; ok {
			r.leaders[w] = far
		}
		w = next
	}
}
