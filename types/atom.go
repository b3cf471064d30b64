package types

import (
	"iter"
	"maps"
	"slices"
	"strconv"
	"strings"

	"commonform/api"
	"commonform/forms"
)

// leaves yields the types of which others are made by AND, OR and NOT.
func leaves(specs []*spec) iter.Seq[*spec] {
	return func(yield func(*spec) bool) {
		visit(specs, yield)
	}
}

// visit yields the leaves of some types, and reports whether to go on.
func visit(specs []*spec, yield func(*spec) bool) bool {
	for _, s := range specs {
		switch s.op {
		case opAnd, opOr, opNot:
			if !visit(s.parts, yield) {
				return false
			}
		default:
			if !yield(s) {
				return false
			}
		}
	}
	return true
}

// Mentions are what types say of atoms: what they do not mention they cannot tell apart.
type mentions struct {
	objects []api.Form // of MEMBER
	values  []api.Form // of real numbers, rational, ascending
	lengths map[int]bool
	dims    map[[2]int]map[int]bool // by the rank of an array, and the number of the dimension
}

// mentionsOf returns what types say of atoms.
func mentionsOf(specs []*spec) *mentions {
	m := &mentions{lengths: map[int]bool{}, dims: map[[2]int]map[int]bool{}}
	for s := range leaves(specs) {
		switch s.op {
		case opMember:
			m.objects = append(m.objects, s.objects...)
		case opRange:
			m.addBound(s.low)
			m.addBound(s.high)
		case opSized:
			m.lengths[s.length] = true
		case opShaped:
			m.addDims(s.dims)
		}
	}
	for _, x := range m.objects {
		m.addValue(x)
	}
	m.values = ascending(m.values)
	return m
}

func (m *mentions) addBound(b bound) {
	if b.isSome {
		m.addValue(b.value)
	}
}

func (m *mentions) addDims(dims []int) {
	for i, d := range dims {
		at := [2]int{len(dims), i}
		if m.dims[at] == nil {
			m.dims[at] = map[int]bool{}
		}
		if d != anyDimension {
			m.dims[at][d] = true
		}
	}
}

// withOther returns some numbers from 0 on in order, and ahead of them the least one that is none of them.
func withOther(numbers map[int]bool) []int {
	other := 0
	for numbers[other] {
		other++
	}
	return append([]int{other}, slices.Sorted(maps.Keys(numbers))...)
}

// atoms yields atoms of all classes that some types may tell apart.
func atoms(specs []*spec) iter.Seq[api.Form] {
	m := mentionsOf(specs)
	makers := [...]func() []api.Form{
		func() []api.Form { return m.objects },
		m.symbols, m.integers, m.characters, m.ratios,
		func() []api.Form { return m.floats(api.FormSingle) },
		func() []api.Form { return m.floats(api.FormDouble) },
		m.complexes, m.vectors, m.arrays, formlessObjects,
	}
	return func(yield func(api.Form) bool) {
		for _, made := range makers {
			for _, x := range made() {
				if !yield(x) {
					return
				}
			}
		}
	}
}

// other returns the first object of a row that is not mentioned.
func (m *mentions) other(row func(i int) api.Form) api.Form {
	for i := range len(m.objects) {
		x := row(i)
		if !slices.ContainsFunc(m.objects, func(y api.Form) bool { return forms.Equal(x, y) }) {
			return x
		}
	}
	return row(len(m.objects))
}

func (m *mentions) symbols() []api.Form {
	inHome := func(home string) api.Form {
		return m.other(func(i int) api.Form { return forms.Symbol(home, "X"+strconv.Itoa(i)) })
	}
	return []api.Form{forms.Nil(), forms.Symbol(lisp, "T"), inHome(lisp), inHome("KEYWORD")}
}

func (m *mentions) characters() []api.Form {
	return []api.Form{m.other(func(i int) api.Form { return api.Form{Kind: api.FormChar, Text: string(rune('a' + i))} })}
}

func (m *mentions) complexes() []api.Form {
	return []api.Form{m.other(func(i int) api.Form {
		return api.Form{Kind: api.FormComplex, Kids: []api.Form{integerOf(0), integerOf(i + 1)}}
	})}
}

// vectors returns strings, bit vectors and vectors of all lengths that are mentioned, and of another one.
func (m *mentions) vectors() []api.Form {
	var l []api.Form
	for _, n := range withOther(m.lengths) {
		l = append(l,
			api.Form{Kind: api.FormString, Text: strings.Repeat("a", n)},
			api.Form{Kind: api.FormBits, Text: strings.Repeat("0", n)},
			api.Form{Kind: api.FormVector, Kids: slices.Repeat([]api.Form{forms.Nil()}, n)})
	}
	return l
}

// arrays returns arrays of all ranks that types tell apart, and of all their dimensions that are mentioned, and others.
func (m *mentions) arrays() []api.Form {
	var l []api.Form
	for rank := range maxRank + 2 {
		if rank == 1 {
			continue
		}
		for _, dims := range m.shapes(rank, rank) {
			l = append(l, arrayOf(dims))
		}
	}
	return l
}

// shapes returns all choices of the first n dimensions of arrays of a rank.
func (m *mentions) shapes(rank, n int) [][]int {
	if n == 0 {
		return [][]int{nil}
	}
	var l [][]int
	for _, dims := range m.shapes(rank, n-1) {
		for _, d := range withOther(m.dims[[2]int{rank, n - 1}]) {
			l = append(l, append(slices.Clone(dims), d))
		}
	}
	return l
}

func arrayOf(dims []int) api.Form {
	n := 1
	var words []string
	for _, d := range dims {
		n *= d
		words = append(words, strconv.Itoa(d))
	}
	return api.Form{Kind: api.FormArray, Text: strings.Join(words, " "), Kids: slices.Repeat([]api.Form{forms.Nil()}, n)}
}

// formlessObjects returns what stands for objects that have no form.
func formlessObjects() []api.Form {
	return []api.Form{forms.Symbol(formless, "BUILTIN"), forms.Symbol(formless, "TABLE"), forms.Symbol(formless, "OBJECT")}
}
