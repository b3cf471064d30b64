package sequence_test

import (
	"math/rand"
	"slices"
	"strconv"
	"strings"
	"testing"

	"commonform/api"
	"commonform/number"
	"commonform/reader"
	"commonform/sequence"
)

// read returns the forms of a text, with COMMON-LISP as the package.
func read(t *testing.T, s string) []api.Form {
	t.Helper()
	if strings.TrimSpace(s) == "" {
		return nil
	}
	r, at, e := reader.One(reader.Standard("COMMON-LISP"), "#("+s+")")
	if e != api.OK {
		t.Fatalf("One(%q): %d, %v", s, at, e)
	}
	return r.Form.Kids
}

func one(t *testing.T, s string) api.Form {
	t.Helper()
	return read(t, s)[0]
}

func node(kind int, text string, kids ...api.Form) api.Form {
	return api.Form{Kind: kind, Text: text, Kids: kids}
}

func num(n int) api.Form {
	return node(api.FormInt, strconv.Itoa(n))
}

// many returns so many equal elements.
func many(n int, x api.Form) []api.Form {
	return slices.Repeat([]api.Form{x}, n)
}

func sameForm(x, y api.Form) bool {
	return x.Kind == y.Kind && x.Text == y.Text && x.Home == y.Home && slices.EqualFunc(x.Kids, y.Kids, sameForm)
}

func sameAll(a, b []api.Form) bool {
	return slices.EqualFunc(a, b, sameForm)
}

// isAlike is the definition of both tests.
func isAlike(test int, x, y api.Form) bool {
	if sameForm(x, y) {
		return true
	}
	if test == sequence.Same {
		return false
	}
	if number.Check(x) == api.OK && number.Check(y) == api.OK {
		is, _ := number.Equals(x, y)
		return is
	}
	if x.Kind != y.Kind {
		return false
	}
	switch x.Kind {
	case api.FormChar, api.FormString:
		return great(x.Text) == great(y.Text)
	case api.FormCons, api.FormVector:
		return slices.EqualFunc(x.Kids, y.Kids, func(a, b api.Form) bool { return isAlike(test, a, b) })
	}
	return false
}

func great(s string) string {
	b := []byte(s)
	for i, c := range b {
		if 'a' <= c && c <= 'z' {
			b[i] -= 32
		}
	}
	return string(b)
}

// keyOf is the definition of the keys.
func keyOf(key int, x api.Form) (api.Form, bool) {
	n := len(x.Kids)
	switch {
	case key == sequence.Whole:
		return x, true
	case key == sequence.First && x.Kind == api.FormCons && n > 0:
		return x.Kids[0], true
	case key == sequence.Second && x.Kind == api.FormCons && n > 2:
		return x.Kids[1], true
	case key == sequence.Second && x.Kind == api.FormCons && n > 0:
		return keyOf(sequence.First, x.Kids[n-1])
	case key == sequence.Length && x.Kind == api.FormVector:
		return num(n), true
	case key == sequence.Length && x.Kind == api.FormString:
		return num(len(x.Text)), true
	case key == sequence.Length && x.Kind == api.FormCons:
		return num(n - 1), true
	}
	return api.Form{}, false
}

// keysOf returns the keys of elements, or false.
func keysOf(key int, l []api.Form) ([]api.Form, bool) {
	var keys []api.Form
	for _, x := range l {
		k, is := keyOf(key, x)
		if !is {
			return nil, false
		}
		keys = append(keys, k)
	}
	return keys, true
}

// isLess is the definition of the orders.
func isLess(order int, x, y api.Form) (is, ok bool) {
	fits := func(f api.Form) bool {
		switch order {
		case sequence.Numbers:
			return number.Check(f) == api.OK && f.Kind != api.FormComplex
		case sequence.Characters:
			return f.Kind == api.FormChar
		}
		return f.Kind == api.FormString
	}
	switch {
	case !fits(x) || !fits(y):
		return false, false
	case order == sequence.Numbers:
		sign, _ := number.Cmp(x, y)
		return sign < 0, true
	}
	return strings.Compare(x.Text, y.Text) < 0, true
}

const pool = `1 2 1.0 1/2 0.5 0.5d0 -0.0 0 #C(1 2) #C(1.0 2.0) #C(0.0 1.0) #\a #\A #\1 "ab" "AB" "aB" "" "é" "É" a |a| :a #:a nil () #* #*01 #() #(1) #(1.0) #("x") #("X") #2A((1 2) (1 2)) #2A((1.0 2) (1 2)) (1) (1.0) (1 . 2) (1.0 . 2.0) (1 2) (1 "b") (1 "B" 3) (2 (1)) ("a" . "b") (#\b 2) (1 2 . 3) ((1) (2))`

// odd are forms that no text makes: wrong ones, conses with few kids, and what has a home or kids that play no part.
func odd() []api.Form {
	return []api.Form{
		{}, node(api.FormCons, ""), node(api.FormCons, "", num(1)), node(api.FormCons, "", node(api.FormCons, "", num(1))), node(api.FormCons, "x", num(1), num(2)), node(api.FormInt, "01"), node(api.FormInt, "1", num(1)),
		node(api.FormSingle, "7f800000"), node(api.FormComplex, "", num(1), num(0)), node(77, "a"), node(77, "A"), {Kind: api.FormChar, Text: "a", Home: "P"}, {Kind: api.FormString, Text: "ab", Home: "P"}, node(api.FormString, "\xff"), node(api.FormVector, "x"), node(api.FormLabel, "1", num(1)), node(api.FormRef, "1"),
		node(api.FormCons, "", num(1), node(api.FormCons, "")),
	}
}

func everything(t *testing.T) []api.Form {
	return slices.Concat(read(t, pool), odd())
}

func pick[T any](r *rand.Rand, l []T) T {
	return l[r.Intn(len(l))]
}

// some returns a random sequence of elements of a pool.
func some(r *rand.Rand, pool []api.Form, most int) []api.Form {
	var l []api.Form
	for range r.Intn(most + 1) {
		l = append(l, pick(r, pool))
	}
	return l
}

// text returns a text of forms for messages.
func text(l ...api.Form) string {
	b := strings.Builder{}
	for _, x := range l {
		b.WriteString(strconv.Itoa(x.Kind) + ":" + x.Text)
		if len(x.Kids) > 0 {
			b.WriteString("(" + text(x.Kids...) + ")")
		}
		b.WriteString(" ")
	}
	return b.String()
}
