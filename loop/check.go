package loop

import (
	"iter"

	"commonform/api"
	"commonform/forms"
)

// walk goes through clauses, each ahead of those in it.
func walk(l []Clause) iter.Seq[Clause] {
	return func(yield func(Clause) bool) {
		visit(l, yield)
	}
}

// visit yields clauses, and reports whether to go on.
func visit(l []Clause, yield func(Clause) bool) bool {
	for _, c := range l {
		if !yield(c) || !visit(c.Then, yield) || !visit(c.Else, yield) {
			return false
		}
	}
	return true
}

// Check returns the error of clauses.
func Check(l []Clause) api.Errno {
	count := 0
	for range walk(l) {
		count++
		if count > mostClauses {
			return api.ErrSize
		}
	}
	for c := range walk(l) {
		if !c.isRight() {
			return api.ErrForm
		}
	}
	if !areOrdered(l) {
		return api.ErrOrder
	}
	if !doFit(l) {
		return ErrKind
	}
	return api.OK
}

// isSelectable reports whether clauses of a kind may stand in others.
func isSelectable(kind int) bool { return kind >= Do && kind <= Return }

// isAccumulation reports whether clauses of a kind put values together.
func isAccumulation(kind int) bool { return kind >= Collect && kind <= Minimize }

// isRight reports whether a clause has the parts of its kind.
func (c Clause) isRight() bool {
	for _, f := range c.Forms {
		if forms.Check(f) != api.OK {
			return false
		}
	}
	isAround := c.Kind == If || c.Kind == Unless
	if isAround != (len(c.Then) > 0) || !isAround && len(c.Else) > 0 {
		return false
	}
	return c.hasVariable() && c.hasForms() && areSelectable(c.Then) && areSelectable(c.Else)
}

func areSelectable(l []Clause) bool {
	for _, c := range l {
		if !isSelectable(c.Kind) {
			return false
		}
	}
	return true
}

// hasVariable reports whether the variable of a clause is as its kind wants it.
func (c Clause) hasVariable() bool {
	if isEmpty(c.Var) {
		return !c.needsVariable()
	}
	if !c.needsVariable() || forms.Check(c.Var) != api.OK {
		return false
	}
	switch {
	case c.Kind == Named:
		return c.Var.Kind == api.FormSymbol
	case isAccumulation(c.Kind):
		return isVariable(c.Var) || forms.IsNil(c.Var)
	}
	return isVariable(c.Var)
}

func isEmpty(f api.Form) bool {
	return f.Kind == 0 && f.Text == "" && f.Home == "" && len(f.Kids) == 0
}

func (c Clause) needsVariable() bool {
	switch c.Kind {
	case Named, With, Arithmetic, In, On, Across, Equals:
		return true
	}
	return isAccumulation(c.Kind)
}

// hasForms reports whether the forms of a clause are as its kind wants them.
func (c Clause) hasForms() bool {
	n := len(c.Forms)
	switch c.Kind {
	case Named:
		return n == 0
	case Initially, Finally, Do:
		return n > 0 && areCompound(c.Forms)
	case Arithmetic:
		return n == 4 && isDirection(c.Forms[how], !forms.IsNil(c.Forms[limit]))
	case In, On, Equals:
		return n == 1 || n == 2
	}
	return n == 1 && c.Kind >= Named && c.Kind <= Return
}

// isDirection reports whether a form may say how an arithmetic clause goes.
func isDirection(f api.Form, hasLimit bool) bool {
	if f.Kind != api.FormInt {
		return false
	}
	switch f.Text {
	case "0", "2":
		return true
	case "1", "3":
		return hasLimit
	}
	return false
}

// areOrdered reports whether clauses stand in a right order.
func areOrdered(l []Clause) bool {
	isBody := false
	for i, c := range l {
		switch {
		case c.Kind == Named && i > 0:
			return false
		case isBody && (c.Kind == With || c.Kind >= Arithmetic && c.Kind <= Equals):
			return false
		}
		isBody = isBody || c.Kind > Repeat
	}
	return true
}

// groupOf returns a kind that stands for all accumulations whose values may be put together.
func groupOf(kind int) int {
	switch kind {
	case Collect, Append:
		return Collect
	case Sum, Count:
		return Sum
	}
	return Maximize
}

// A name is a symbol, as a key of a map.
type name struct{ home, text string }

// doFit reports whether values that are put together are of one group for each variable. NIL stands for the hidden one.
func doFit(l []Clause) bool {
	groups := map[name]int{}
	hasAnswer, hasHidden := false, false
	for c := range walk(l) {
		hasAnswer = hasAnswer || c.Kind >= Always && c.Kind <= Thereis
		if !isAccumulation(c.Kind) {
			continue
		}
		hasHidden = hasHidden || forms.IsNil(c.Var)
		v, group := name{c.Var.Home, c.Var.Text}, groupOf(c.Kind)
		if met, ok := groups[v]; ok && met != group {
			return false
		}
		groups[v] = group
	}
	return !hasAnswer || !hasHidden
}
