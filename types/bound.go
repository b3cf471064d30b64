package types

import (
	"commonform/api"
	"commonform/forms"
	"commonform/number"
)

// Integers returns between which bounds the integers of a type lie.
func Integers(t api.Form) (some bool, lo, hi api.Form, e api.Errno) {
	s, e := read(t)
	if e != api.OK {
		return false, api.Form{}, api.Form{}, e
	}
	some, low, high := s.integerBounds()
	if !some {
		return false, api.Form{}, api.Form{}, api.OK
	}
	return true, low.form(), high.form(), api.OK
}

// An end is the last integer of a type on one side, or infinite, with a sign.
type end struct {
	infinite int
	value    api.Form
}

func (x end) form() api.Form {
	if x.infinite != 0 {
		return forms.Symbol(lisp, "*")
	}
	return x.value
}

func (x end) sign() int {
	if x.infinite != 0 {
		return x.infinite
	}
	return compare(x.value, integerOf(0))
}

// isLess reports whether an end lies below another one.
func (x end) isLess(y end) bool {
	if x.infinite != 0 || y.infinite != 0 {
		return x.infinite < y.infinite
	}
	return compare(x.value, y.value) < 0
}

func (x end) plus(y end) end {
	if x.infinite != 0 {
		return x
	}
	if y.infinite != 0 {
		return y
	}
	return end{value: sum(x.value, y.value)}
}

// times returns the product, which is 0 also of 0 and an infinite end: no integer is infinite.
func (x end) times(y end) end {
	sign := x.sign() * y.sign()
	if sign != 0 && (x.infinite != 0 || y.infinite != 0) {
		return end{infinite: sign}
	}
	if sign == 0 {
		return end{value: integerOf(0)}
	}
	return end{value: sure(number.Mul(x.value, y.value))}
}

// integerBounds returns whether a type has integers, and the ends of them.
func (s *spec) integerBounds() (some bool, low, high end) {
	cuts := mentionsOf([]*spec{s}).cuts()
	below := difference(cuts[0], integerOf(1))
	if s.has(below) {
		some, low, high = true, end{infinite: -1}, end{value: below}
	}
	for i, cut := range cuts {
		if !s.has(cut) {
			continue
		}
		if !some {
			some, low = true, end{value: cut}
		}
		high = end{infinite: 1}
		if i+1 < len(cuts) {
			high = end{value: difference(cuts[i+1], integerOf(1))}
		}
	}
	return some, low, high
}

// isIntegral reports whether all objects of a type are integers.
func (s *spec) isIntegral() bool {
	for _, c := range classesOf([]*spec{s, ofKinds(setOf(anInteger))}) {
		if c.answers.has(0) && !c.answers.has(1) {
			return false
		}
	}
	return true
}

// Plus returns a type of the sums of the objects of two types.
func Plus(a, b api.Form) (api.Form, api.Errno) {
	return combination(a, b, func(x, y [2]end) (end, end) {
		return x[0].plus(y[0]), x[1].plus(y[1])
	})
}

// Times returns a type of the products of the objects of two types.
func Times(a, b api.Form) (api.Form, api.Errno) {
	return combination(a, b, func(x, y [2]end) (end, end) {
		least := x[0].times(y[0])
		greatest := least
		for _, p := range [...]end{x[0].times(y[1]), x[1].times(y[0]), x[1].times(y[1])} {
			if p.isLess(least) {
				least = p
			}
			if greatest.isLess(p) {
				greatest = p
			}
		}
		return least, greatest
	})
}

// combination returns the type of the results of an operation whose ends follow from those of both types.
func combination(a, b api.Form, ends func(x, y [2]end) (end, end)) (api.Form, api.Errno) {
	specs, e := readAll(a, b)
	if e != api.OK {
		return api.Form{}, e
	}
	var all [2][2]end
	isEmpty := false
	for i, s := range specs {
		if !s.isIntegral() {
			return forms.Symbol(lisp, "NUMBER"), api.OK
		}
		some, low, high := s.integerBounds()
		isEmpty = isEmpty || !some
		all[i] = [2]end{low, high}
	}
	if isEmpty {
		return forms.Nil(), api.OK
	}
	low, high := ends(all[0], all[1])
	return forms.Call("INTEGER", []api.Form{short(low.form()), short(high.form())}), api.OK
}

// short returns a bound, if its text may stand in a type specifier, and otherwise *.
func short(x api.Form) api.Form {
	if len(x.Text) > maxText {
		return forms.Symbol(lisp, "*")
	}
	return x
}
