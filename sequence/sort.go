package sequence

import (
	"cmp"
	"strings"

	"commonform/api"
	"commonform/number"
)

// An order tells which forms it is for, and which one of two such forms is less.
type order struct {
	fits func(x api.Form) bool
	less func(x, y api.Form) bool
}

func orderOf(n int) order {
	ofKind := func(kind int) order {
		return order{
			func(x api.Form) bool { return x.Kind == kind },
			func(x, y api.Form) bool { return x.Text < y.Text },
		}
	}
	return [...]order{
		Numbers:    {isReal, isLessNumber},
		Characters: ofKind(api.FormChar),
		Strings:    ofKind(api.FormString),
	}[n]
}

func isReal(x api.Form) bool {
	return x.Kind != api.FormComplex && number.Check(x) == api.OK
}

// isLessNumber compares two real numbers. The digits of integers are compared as they are: they may be very many, and be compared often.
func isLessNumber(x, y api.Form) bool {
	if x.Kind == api.FormInt && y.Kind == api.FormInt {
		return compareIntegers(x.Text, y.Text) < 0
	}
	sign, _ := number.Cmp(x, y)
	return sign < 0
}

func compareIntegers(x, y string) int {
	a, isBelow := strings.CutPrefix(x, "-")
	b, isOtherBelow := strings.CutPrefix(y, "-")
	switch {
	case isBelow && isOtherBelow:
		return compareDigits(b, a)
	case isBelow:
		return -1
	case isOtherBelow:
		return 1
	}
	return compareDigits(a, b)
}

func compareDigits(a, b string) int {
	return cmp.Or(cmp.Compare(len(a), len(b)), cmp.Compare(a, b))
}

// Less reports whether an element is less than another one.
func Less(order int, x, y api.Form) (bool, api.Errno) {
	if !isOne(order, orders) {
		return false, api.ErrArg
	}
	o := orderOf(order)
	if !o.fits(x) || !o.fits(y) {
		return false, api.ErrType
	}
	return o.less(x, y), api.OK
}

// A pair is an element and its key.
type pair struct {
	element, key api.Form
}

// pairsOf returns the elements of sequences with their keys, for each sequence.
func pairsOf(o order, key int, sequences ...[]api.Form) ([][]pair, api.Errno) {
	var all [][]pair
	for _, l := range sequences {
		taken, e := takenAll(key, l)
		if e != api.OK {
			return nil, e
		}
		var pairs []pair
		for i, f := range taken {
			if !o.fits(f) {
				return nil, api.ErrType
			}
			pairs = append(pairs, pair{l[i], f})
		}
		all = append(all, pairs)
	}
	return all, api.OK
}

// elements returns the elements of pairs.
func elements(l []pair) []api.Form {
	var out []api.Form
	for _, p := range l {
		out = append(out, copied(p.element))
	}
	return out
}

// merged returns the pairs of both lists, of two that are not less than each other the one of a first.
func (o order) merged(a, b []pair) []pair {
	var l []pair
	for len(a) > 0 && len(b) > 0 {
		if o.less(b[0].key, a[0].key) {
			l = append(l, b[0])
			b = b[1:]
			continue
		}
		l = append(l, a[0])
		a = a[1:]
	}
	l = append(l, a...)
	return append(l, b...)
}

// sorted returns pairs in order.
func (o order) sorted(l []pair) []pair {
	if len(l) < 2 {
		return l
	}
	half := len(l) / 2
	return o.merged(o.sorted(l[:half]), o.sorted(l[half:]))
}

// Sort returns the elements in an order, equal ones as they come.
func Sort(l []api.Form, order, key int) ([]api.Form, api.Errno) {
	if e := checkSize(l); e != api.OK {
		return nil, e
	}
	if !isOne(order, orders) || !isOne(key, keys) {
		return nil, api.ErrArg
	}
	o := orderOf(order)
	pairs, e := pairsOf(o, key, l)
	if e != api.OK {
		return nil, e
	}
	return elements(o.sorted(pairs[0])), api.OK
}

// Merge returns the elements of two sequences, merged by an order.
func Merge(a, b []api.Form, order, key int) ([]api.Form, api.Errno) {
	if e := checkSize(a, b); e != api.OK {
		return nil, e
	}
	if !isOne(order, orders) || !isOne(key, keys) {
		return nil, api.ErrArg
	}
	o := orderOf(order)
	pairs, e := pairsOf(o, key, a, b)
	if e != api.OK {
		return nil, e
	}
	l := o.merged(pairs[0], pairs[1])
	if len(l) > api.MaxForm {
		return nil, api.ErrSize
	}
	return elements(l), api.OK
}
