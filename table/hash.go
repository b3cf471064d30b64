package table

import (
	"commonform/api"
	"commonform/heap"
	"commonform/number"
)

// hashedWords is how many words of an object, and of its parts, count for its hash.
const hashedWords = 64

const (
	offset = 14695981039346656037
	prime  = 1099511628211
)

// A sum is a hash of what was put in so far.
type sum uint64

func newSum(x uint64) sum { return sum(offset).with(x) }

func (s sum) with(x uint64) sum {
	s = (s ^ sum(x)) * prime
	return s ^ s>>29
}

func (s sum) withText(text string) sum {
	for _, b := range []byte(text) {
		s = (s ^ sum(b)) * prime
	}
	return s.with(uint64(len(text)))
}

// hash returns the hash of a word. If places count, an object of which the test looks at nothing but the place goes by this, otherwise by what a move does not change.
func (v view) hash(w heap.Word, places bool) uint64 {
	x := hasher{view: v, places: places, left: hashedWords, sum: newSum(uint64(v.test))}
	x.add(w)
	return uint64(x.sum)
}

// A hasher goes through an object and its parts as through a tree, up to so many words: so circles look the same, of however many objects they are.
type hasher struct {
	view
	places bool
	left   int
	sum    sum
}

func (x *hasher) add(w heap.Word) {
	x.left--
	s := x.shape(w)
	if s.sort == whole {
		x.addWhole(w)
		return
	}
	x.sum = x.sum.with(uint64(s.sort)).with(uint64(len(s.parts)))
	for _, part := range s.parts {
		if x.left <= 0 {
			return
		}
		x.add(part)
	}
}

// addWhole puts in a word without parts.
func (x *hasher) addWhole(w heap.Word) {
	if x.test == Eq {
		x.sum = x.sum.with(uint64(w))
		return
	}
	if f, ok := x.form(w); ok {
		x.addNumber(f)
		return
	}
	kind := x.heap.Kind(w)
	text, e := x.heap.Bytes(w)
	switch {
	case x.test >= EqualTest && e == api.OK && (kind == heap.KindString || kind == heap.KindBits):
		x.sum = x.sum.with(uint64(kind)).withText(text)
	case x.test == EqualpTest && !w.IsRef():
		x.sum = x.sum.with(uint64(fold(w)))
	case x.places || !w.IsRef():
		x.sum = x.sum.with(uint64(w))
	default:
		x.sum = x.sum.with(uint64(kind)).with(uint64(x.heap.Len(w)))
	}
}

// addNumber puts in what may be a number: its kinds and texts, or, for EQUALP, the values of both parts.
func (x *hasher) addNumber(f api.Form) {
	parts := f.Kids
	if f.Kind != api.FormComplex {
		parts = []api.Form{f, {Kind: api.FormInt, Text: "0"}}
	}
	for _, part := range parts {
		if x.test == EqualpTest {
			part = exact(part)
		}
		x.sum = x.sum.with(uint64(part.Kind)).withText(part.Text)
	}
}

// exact returns the value of a real number as a rational one; of what is none, nothing.
func exact(f api.Form) api.Form {
	if f.Kind == api.FormInt || f.Kind == api.FormRatio {
		return f
	}
	value, _ := number.Rational(f)
	return value
}
