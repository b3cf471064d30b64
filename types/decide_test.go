package types_test

import (
	"math/big"
	"math/rand"
	"slices"
	"strconv"
	"strings"
	"testing"
	"time"

	"commonform/api"
	"commonform/forms"
	"commonform/types"
)

// P14.6: each object is of just one of these, or of none of them, if it has no form and is no function and no table.
func TestNames(t *testing.T) {
	for _, x := range slices.Concat(atoms(t), readAll(t, "(1) (a . b)")) {
		n := 0
		for _, s := range strings.Fields("CONS SYMBOL INTEGER RATIO SINGLE-FLOAT DOUBLE-FLOAT COMPLEX CHARACTER ARRAY FUNCTION HASH-TABLE") {
			if is, e := types.Typep(x, name(s)); is && e == api.OK {
				n++
			}
		}
		none := x.Kind == api.FormSymbol && x.Home == "%" && x.Text != "BUILTIN" && x.Text != "CLOSURE" && x.Text != "TABLE"
		if n != 1 && !none || none && n != 0 {
			t.Errorf("%s is of %d of the kinds", text(x), n)
		}
		for _, s := range allNames {
			if is, e := types.Typep(x, name(s)); is != isNamed(x, s) || e != api.OK {
				t.Errorf("Typep(%s, %s) = %v, %v", text(x), s, is, e)
			}
		}
	}
	// which names are parts of which, found by objects of all classes
	all := append(atoms(t), read(t, "(1)"))
	for _, a := range allNames {
		for _, b := range allNames {
			want := !slices.ContainsFunc(all, func(x api.Form) bool { return isNamed(x, a) && !isNamed(x, b) })
			part(t, a, b, want)
		}
	}
}

func TestParts(t *testing.T) {
	for _, c := range []struct {
		a, b string
		want bool
	}{
		{"(integer 1 5)", "(rational 1 5)", true}, {"(integer 1 5)", "(real (0) (6))", true}, {"(integer 1 5)", "(integer (0) (6))", true}, {"(integer (0) (6))", "(integer 1 5)", true}, {"(rational (0) (6))", "(rational 1 5)", false}, {"(integer 0.5d0 2)", "t", false}, {"(real 1 2)", "(or (rational 1 2) (float 1 2))", true}, {"(rational 1 2)", "(or (integer 1 2) ratio)", true}, {"ratio", "(not integer)", true}, {"(and rational (not ratio))", "integer", true}, {"(rational (0) (1))", "ratio", true}, {"(real 1/2 1/2)", "(or (eql 1/2) (single-float 0.5 0.5) (double-float 1/2 1/2))", true}, {"(float 0 0)", "(member 0.0 -0.0 0.0d0 -0.0d0)", true}, {"(float 0 0)", "(member 0.0 0.0d0 -0.0d0)", false}, {"(single-float 0)", "(single-float 0.0)", true}, {"(eql -0.0)", "(single-float 0.0)", true}, {"(single-float (0) 1.0e-45)", "(eql 1.0e-45)", true}, {"(single-float 1/10 1/10)", "nil", true}, {"(single-float 0.1 0.1)", "nil", false}, {"(single-float 1/10 0.1)", "(eql 0.1)", true}, {"(double-float 0.1 0.1)", "(eql 0.1)", false}, {"(single-float (3.4028234e38))", "nil", true}, {"(double-float (3.4028234e38))", "nil", false}, {"(double-float (1.7976931348623157d308))", "nil", true}, {"(rational (1/3) 1/2)", "(rational 0 1/2)", true}, {"(rational (3) (4))", "nil", false}, {"(rational (1/2) (3/2))", "integer", false}, {"(rational (1/2) (3/2))", "(eql 1)", false}, {"(rational (0) (2))", "integer", false}, {"(rational (99/100) (101/100))", "integer", false}, {"(rational 1/2 1/2)", "nil", false}, {"(rational (1/2) (1/2))", "nil", true}, {"(rational * (0))", "integer", false}, {"(rational (0))", "integer", false}, {"(and ratio (rational (-1/2)) (rational * (-1/3)))", "nil", false}, {"(and (single-float 1.5 1.5) (real -10000000000000000000000000000000000000000))", "nil", false}, {"(and (single-float (1.0)) (not (single-float 1.0000002)))", "(eql 1.0000001)", true}, {"(and (single-float (1.0)) (not (single-float 1.0000002)))", "nil", false}, {"(single-float (0.1d0) 0.1)", "(eql 0.1)", true}, {"(single-float (0.1d0) 0.1)", "nil", false}, {"(single-float (0.099999994) (0.1d0))", "nil", true}, {"(single-float * (-3.4028233e38))", "(eql -3.4028235e38)", true}, {"(single-float * (-3.4028233e38))", "nil", false}, {"(single-float (-1.0e-45) (1.0e-45))", "(member 0.0 -0.0)", true}, {"(single-float (-1.0e-45) (1.0e-45))", "(eql 0.0)", false}, {"(double-float (5.0d-324))", "nil", false}, {"(single-float (0) 1.0d-60)", "nil", true}, {"(single-float -1.0d-60 (0))", "nil", true}, {"single-float", "(real -1000000000000000000000000000000000000000 1000000000000000000000000000000000000000)", true}, {"float", "(real -1000000000000000000000000000000000000000 1000000000000000000000000000000000000000)", false},
		{"(mod 5)", "(unsigned-byte 3)", true}, {"(unsigned-byte 3)", "(mod 8)", true}, {"(mod 8)", "(unsigned-byte 3)", true}, {"(unsigned-byte 3)", "(mod 7)", false}, {"(signed-byte 3)", "(integer -4 3)", true}, {"(integer -4 3)", "(signed-byte 3)", true}, {"(signed-byte 1)", "(member -1 0)", true}, {"(signed-byte 61)", "fixnum", true}, {"fixnum", "(signed-byte 61)", true}, {"(signed-byte 62)", "fixnum", false}, {"(or fixnum bignum)", "integer", true}, {"integer", "(or fixnum bignum)", true}, {"(and fixnum bignum)", "nil", true}, {"bit", "(member 0 1)", true}, {"(member 0 1)", "bit", true}, {"(unsigned-byte 200)", "(integer 0 1606938044258990275541962092341162602522202993782792835301375)", true}, {"(unsigned-byte 200)", "(integer 0 1606938044258990275541962092341162602522202993782792835301374)", false},
		{"null", "(and list symbol)", true}, {"(and list symbol)", "null", true}, {"boolean", "(member nil t)", true}, {"keyword", "symbol", true}, {"symbol", "(or keyword boolean)", false}, {"(eql :a)", "keyword", true}, {"(and keyword (not (eql :a)))", "nil", false}, {"atom", "(not cons)", true}, {"(not cons)", "atom", true}, {"t", "(or cons atom)", true}, {"t", "(or cons symbol number character array function hash-table)", false}, {"(or function hash-table)", "atom", true}, {"function", "symbol", false}, {"character", "(member #\\a)", false}, {"complex", "(member #C(0 1) #C(0 2))", false}, {"(and complex (not (eql #C(0 1))))", "nil", false}, {"sequence", "(or list vector)", true}, {"(or list vector)", "sequence", true}, {"array", "sequence", false}, {"nil", "nil", true}, {"nil", "t", true}, {"t", "nil", false}, {"(and)", "t", true}, {"t", "(and)", true}, {"(or)", "nil", true}, {"(member)", "nil", true},
		{"(string 3)", "(vector * 3)", true}, {"(vector * 3)", "(or (string 3) (bit-vector 3) (simple-vector 3))", true}, {"(vector * 3)", "(array * (3))", true}, {"(array * (3))", "(vector * 3)", true}, {"(array * 1)", "vector", true}, {"vector", "(array * 1)", true}, {"(array * (*))", "vector", true}, {"(array * (2 3))", "(array * 2)", true}, {"(array * (2 3))", "(array * (* 3))", true}, {"(array * (* 3))", "(array * (2 3))", false}, {"(array * 2)", "(array * (* *))", true}, {"(array * (* *))", "(or (array * (0 *)) (array * (1 *)) (array * (2 *)) (array * (3 *)) (array * (4 *)))", false}, {"array", "(or (array * 0) (array * 1) (array * 2) (array * 3) (array * 4))", false}, {"(array * nil)", "(array * 0)", true}, {"(array * 0)", "(array * nil)", true}, {"(and vector (not (vector * 50)))", "nil", false}, {"string", "(or (string 0) (string 1) (string 2))", false}, {"(and (array * 2) (not (array * (* 0))) (not (array * (0 *))))", "nil", false}, {"(and (array * 2) vector)", "nil", true}, {"(array * 4)", "(array * (* * * 2))", false}, {"(array * (* * * 2))", "nil", false}, {"(array * 4)", "(or (array * (* * 1 *)) (array * (* 0 * *)))", false}, {"(and (array * (1 2 3 4)) (array * (1 * * 4)))", "nil", false}, {"(string *)", "string", true},
		{"(cons)", "cons", true}, {"cons", "(cons * *)", true}, {"(cons nil)", "nil", true}, {"(cons * nil)", "nil", true}, {"(cons integer nil)", "string", true}, {"(cons bit bit)", "(cons integer integer)", true}, {"(cons integer)", "(cons bit)", false}, {"(cons (or integer string))", "(or (cons integer) (cons string))", true}, {"(cons (or integer string) (or integer string))", "(or (cons integer integer) (cons string string))", false}, {"(and (cons integer) (cons * string))", "(cons integer string)", true}, {"(cons integer string)", "(and (cons integer) (cons * string))", true}, {"(not (cons integer string))", "(or atom (cons (not integer)) (cons * (not string)))", true}, {"(cons t)", "cons", true}, {"(and list (not null))", "(cons)", true}, {"(cons (cons (cons (cons bit))))", "(cons (cons (cons (cons integer))))", true}, {"(cons (cons (cons (cons integer))))", "(cons (cons (cons (cons bit))))", false}, {"(cons * (cons * (cons * (cons * null))))", "(cons * (cons * (cons * cons)))", true},
	} {
		if c.a == "(integer 0.5d0 2)" {
			if _, _, e := types.Subtypep(read(t, c.a), read(t, c.b)); e != types.ErrType {
				t.Errorf("Subtypep(%s, %s): %v", c.a, c.b, e)
			}
			continue
		}
		part(t, c.a, c.b, c.want)
	}
}

// P14.3: what is decided of random types is held against many objects: nothing refutes it, and witnesses are right.
func TestDecisions(t *testing.T) {
	r := rand.New(rand.NewSource(14))
	m := maker{r, t}
	some := atoms(t)
	all := slices.Clone(some)
	for range 3000 {
		x := forms.Dotted([]api.Form{pick(r, all)}, pick(r, all))
		if _, depth := forms.Size(x); depth < 8 {
			all = append(all, x)
		}
	}
	yes, no, empty := 0, 0, 0
	for range 1500 {
		a, b := m.types(r.Intn(9), 0), m.types(r.Intn(12), 0)
		switch r.Intn(4) {
		case 0:
			a = types.And([]api.Form{a, b})
		case 1:
			b = types.Or([]api.Form{a, b})
		}
		is, w, e := types.Subtypep(a, b)
		if types.Check(a) != api.OK || types.Check(b) != api.OK {
			continue
		}
		if e != api.OK || is && w.Kind != 0 || !is && (!isOf(w, a) || isOf(w, b) || forms.Check(w) != api.OK) {
			t.Fatalf("Subtypep(%s, %s) = %v, %s, %v", text(a), text(b), is, text(w), e)
		}
		if is {
			yes++
		} else {
			no++
		}
		none, x, e := types.Empty(types.And([]api.Form{a, types.Not(b)}))
		if e == api.OK && (none != is || none && x.Kind != 0 || !none && (!isOf(x, a) || isOf(x, b))) {
			t.Fatalf("Empty of %s but %s = %v, %s", text(a), text(b), none, text(x))
		}
		if none, _, _ := types.Empty(a); none {
			empty++
		}
		for range 60 {
			x := pick(r, all)
			ofA, _ := types.Typep(x, a)
			ofB, _ := types.Typep(x, b)
			if ofA != isOf(x, a) || ofB != isOf(x, b) {
				t.Fatalf("Typep(%s) of %s = %v, of %s = %v", text(x), text(a), ofA, text(b), ofB)
			}
			if is && ofA && !ofB {
				t.Fatalf("Subtypep(%s, %s) is refuted by %s", text(a), text(b), text(x))
			}
		}
	}
	if yes < 300 || no < 300 || empty < 60 {
		t.Errorf("%d parts, %d others, %d empty types", yes, no, empty)
	}
}

// Each atom around the bounds is tried for types without conses, so that a part is never found where there is none.
func TestAtoms(t *testing.T) {
	r := rand.New(rand.NewSource(141))
	m := maker{r, t}
	some := atoms(t)
	for range 1500 {
		a, b := m.types(1+r.Intn(4), 4), m.types(1+r.Intn(8), 4)
		is, _, e := types.Subtypep(a, b)
		if e != api.OK {
			continue
		}
		for _, x := range some {
			if is && isOf(x, a) && !isOf(x, b) {
				t.Fatalf("Subtypep(%s, %s) is refuted by %s", text(a), text(b), text(x))
			}
		}
	}
}

// P14.2: what is a part of a part is a part, and NIL and T are the ends.
func TestOrder(t *testing.T) {
	r := rand.New(rand.NewSource(142))
	m := maker{r, t}
	is := func(a, b api.Form) bool {
		yes, _, e := types.Subtypep(a, b)
		return yes && e == api.OK
	}
	n := 0
	for range 2000 {
		a, b, c := m.types(r.Intn(5), 0), m.types(r.Intn(5), 0), m.types(r.Intn(5), 0)
		if r.Intn(2) == 0 {
			b = types.Or([]api.Form{a, b})
		}
		if r.Intn(2) == 0 {
			c = types.Or([]api.Form{c, b})
		}
		if types.Check(a) != api.OK || types.Check(b) != api.OK || types.Check(c) != api.OK {
			continue
		}
		if is(a, b) && is(b, c) {
			n++
			if !is(a, c) {
				t.Fatalf("%s, %s, %s", text(a), text(b), text(c))
			}
		}
		if !is(a, a) || !is(name("NIL"), a) || !is(a, name("T")) || is(a, b) != is(types.Not(b), types.Not(a)) {
			t.Fatalf("%s, %s", text(a), text(b))
		}
	}
	if n < 150 {
		t.Errorf("only %d parts of parts", n)
	}
}

func TestSamples(t *testing.T) {
	if l, e := types.Samples(nil); len(l) != 1 || e != api.OK || forms.Check(l[0]) != api.OK {
		t.Errorf("Samples of no types = %v, %v", l, e)
	}
	r := rand.New(rand.NewSource(143))
	m := maker{r, t}
	all := atoms(t)
	for range 400 {
		all = append(all, forms.Dotted([]api.Form{pick(r, all)}, pick(r, all)))
	}
	for range 300 {
		var l []api.Form
		for range 1 + r.Intn(6) {
			x := m.types(r.Intn(8), 0)
			if types.Check(x) == api.OK {
				l = append(l, x)
			}
		}
		samples, e := types.Samples(l)
		if e != api.OK {
			t.Fatalf("Samples: %v", e)
		}
		// Types that are made of those of l by AND, OR and NOT are the same exactly if no class of objects, told by what l answers, is in just one of them: so each class must have a sample.
		answers := func(x api.Form) string {
			s := ""
			for _, t := range l {
				s += strconv.FormatBool(isOf(x, t)) + " "
			}
			return s
		}
		classes := map[string]bool{}
		for _, x := range samples {
			if forms.Check(x) != api.OK {
				t.Fatalf("the sample %s is no right form", text(x))
			}
			classes[answers(x)] = true
		}
		for _, x := range all {
			if !classes[answers(x)] {
				t.Fatalf("no sample of %v is like %s", l, text(x))
			}
		}
	}
}

func TestIntegers(t *testing.T) {
	for _, c := range []struct{ t, low, high string }{
		{"(or (mod 5) (eql 9) string)", "0", "9"}, {"t", "*", "*"}, {"nil", "", ""}, {"string", "", ""}, {"integer", "*", "*"}, {"(integer 1)", "1", "*"}, {"(integer (1) *)", "2", "*"}, {"(integer * 7)", "*", "7"}, {"(integer * (7))", "*", "6"}, {"(integer 5 1)", "", ""}, {"(integer (1) (2))", "", ""}, {"(real 1/2 7.5)", "1", "7"}, {"(real (1) (2.0))", "", ""}, {"(rational -7/2 (3))", "-3", "2"}, {"(float 1 5)", "", ""}, {"(not (integer 1 5))", "*", "*"}, {"(and integer (not (integer 1)))", "*", "0"}, {"(and integer (not (integer * 1)))", "2", "*"}, {"(and (integer 1 9) (not (integer 3 4)) (not (member 1 9)))", "2", "8"}, {"(and (integer 1 3) (not (member 1 2 3)))", "", ""}, {"fixnum", "-1152921504606846976", "1152921504606846975"}, {"bignum", "*", "*"}, {"(and bignum unsigned-byte)", "1152921504606846976", "*"}, {"(and bignum (integer * 0))", "*", "-1152921504606846977"}, {"(signed-byte 8)", "-128", "127"}, {"(unsigned-byte 8)", "0", "255"}, {"unsigned-byte", "0", "*"}, {"bit", "0", "1"}, {"(cons integer)", "", ""}, {"(or cons (eql -4) (eql 1.0))", "-4", "-4"}, {"(not (not (eql 3)))", "3", "3"}, {"ratio", "", ""}, {"(and rational (not ratio) (real 0.5 3.5d0))", "1", "3"}, {"(or (integer 100) (integer * -100))", "*", "*"}, {"(real 1.0d20 1.0d20)", "100000000000000000000", "100000000000000000000"}, {"(real 1.0e30)", "1000000015047466219876688855040", "*"},
	} {
		some, low, high, e := types.Integers(read(t, c.t))
		if e != api.OK || some != (c.low != "") || some && (low.Text != c.low || high.Text != c.high) || !some && low.Kind+high.Kind != 0 {
			t.Errorf("Integers(%s) = %v, %s, %s, %v", c.t, some, text(low), text(high), e)
		}
		for _, x := range []api.Form{low, high} {
			if some && x.Text == "*" && !isStar(x) || some && x.Text != "*" && x.Kind != api.FormInt {
				t.Errorf("Integers(%s) has the bound %v", c.t, x)
			}
		}
	}
}

// P14.5: the bounds are of the type, and no integer beyond them is; sums and products are of Plus and Times.
func TestBounds(t *testing.T) {
	r := rand.New(rand.NewSource(145))
	m := maker{r, t}
	kinds := map[string]int{}
	for range 1000 {
		a, b := m.types(r.Intn(5), 0), m.types(r.Intn(5), 0)
		if r.Intn(2) == 0 {
			a, b = types.And([]api.Form{a, read(t, "(integer -30 30)")}), types.And([]api.Form{b, name("INTEGER")})
		}
		if types.Check(a) != api.OK || types.Check(b) != api.OK {
			continue
		}
		some, low, high, e := types.Integers(a)
		if e != api.OK {
			t.Fatal(e)
		}
		for n := -50; n <= 50; n++ {
			is := isOf(num(n), a)
			below := some && low.Kind == api.FormInt && valueOf(low).Cmp(big.NewRat(int64(n), 1)) > 0
			above := some && high.Kind == api.FormInt && valueOf(high).Cmp(big.NewRat(int64(n), 1)) < 0
			if is && (!some || below || above) {
				t.Fatalf("Integers(%s) = %v, %s, %s; but %d is of it", text(a), some, text(low), text(high), n)
			}
		}
		for _, x := range []api.Form{low, high} {
			if some && x.Kind == api.FormInt && !isOf(x, a) {
				t.Fatalf("Integers(%s) has the bound %s", text(a), text(x))
			}
		}
		kinds[results(t, a, b, types.Plus, (*big.Rat).Add)]++
		kinds[results(t, a, b, types.Times, (*big.Rat).Mul)]++
	}
	if kinds["NIL"] < 100 || kinds["NUMBER"] < 100 || kinds["INTEGER"] < 100 {
		t.Errorf("the results were %v", kinds)
	}
}

// results checks a type of the results of an operation, and returns its name.
func results(t *testing.T, a, b api.Form, op func(a, b api.Form) (api.Form, api.Errno), exactly func(z, x, y *big.Rat) *big.Rat) string {
	t.Helper()
	c, e := op(a, b)
	if e != api.OK || types.Check(c) != api.OK {
		t.Fatalf("of %s and %s: %s, %v", text(a), text(b), text(c), e)
	}
	all := slices.Concat(readAll(t, "-300 300 1/2 1.0 #C(1 2) a"))
	for n := -31; n <= 31; n++ {
		all = append(all, num(n))
	}
	for _, x := range all {
		for _, y := range all {
			if x.Kind != api.FormInt || y.Kind != api.FormInt || !isOf(x, a) || !isOf(y, b) {
				continue
			}
			z := exactly(new(big.Rat), valueOf(x), valueOf(y))
			if !isOf(node(api.FormInt, z.Num().String()), c) {
				t.Fatalf("of %s and %s: %s, but %s and %s are of them", text(a), text(b), text(c), text(x), text(y))
			}
		}
	}
	if c.Kind == api.FormCons {
		return c.Kids[0].Text
	}
	return c.Text
}

func TestPlusAndTimes(t *testing.T) {
	for _, c := range []struct{ a, b, plus, times string }{
		{"(mod 3)", "(integer 5 *)", "(integer 5 *)", "(integer 0 *)"}, {"(integer -2 3)", "(integer -1 4)", "(integer -3 7)", "(integer -8 12)"}, {"integer", "(eql 0)", "(integer * *)", "(integer 0 0)"}, {"(eql 0)", "(integer 1)", "(integer 1 *)", "(integer 0 0)"}, {"(integer 0 *)", "(integer * 5)", "(integer * *)", "(integer * *)"}, {"(integer 1 *)", "(integer 2 *)", "(integer 3 *)", "(integer 2 *)"}, {"(integer * -1)", "(integer * -2)", "(integer * -3)", "(integer 2 *)"}, {"(integer * -1)", "(integer 2 3)", "(integer * 2)", "(integer * -2)"}, {"(integer 0 *)", "(integer 0 3)", "(integer 0 *)", "(integer 0 *)"}, {"(integer * 0)", "(integer 0 3)", "(integer * 3)", "(integer * 0)"}, {"(integer * 0)", "(integer * 0)", "(integer * 0)", "(integer 0 *)"}, {"integer", "(integer 1 1)", "(integer * *)", "(integer * *)"}, {"(member -5 7)", "(member 2 3)", "(integer -3 10)", "(integer -15 21)"}, {"bit", "bit", "(integer 0 2)", "(integer 0 1)"},
		{"nil", "integer", "nil", "nil"}, {"integer", "(integer 2 1)", "nil", "nil"}, {"nil", "nil", "nil", "nil"}, {"nil", "string", "number", "number"}, {"string", "nil", "number", "number"}, {"(eql 1.0)", "bit", "number", "number"}, {"bit", "rational", "number", "number"}, {"t", "t", "number", "number"}, {"(and rational (not ratio))", "bit", "(integer * *)", "(integer * *)"}, {"(or bit (cons nil))", "bit", "(integer 0 2)", "(integer 0 1)"}, {"(or bit (cons))", "bit", "number", "number"},
		{"(unsigned-byte 200)", "(unsigned-byte 200)", "(integer 0 3213876088517980551083924184682325205044405987565585670602750)", "(integer 0 " + square(200) + ")"},
	} {
		plus, e := types.Plus(read(t, c.a), read(t, c.b))
		times, d := types.Times(read(t, c.a), read(t, c.b))
		if e != api.OK || d != api.OK || !forms.Equal(plus, read(t, c.plus)) || !forms.Equal(times, read(t, c.times)) {
			t.Errorf("%s and %s: Plus %s, %v, Times %s, %v", c.a, c.b, text(plus), e, text(times), d)
		}
	}
	// a text of more than 200 bytes is none
	nines := node(api.FormInt, strings.Repeat("9", 200))
	low := node(api.FormInt, "-"+strings.Repeat("9", 199))
	a := call("INTEGER", low, nines)
	plus, _ := types.Plus(a, call("EQL", num(1)))
	same, _ := types.Plus(a, call("EQL", num(-1)))
	times, _ := types.Times(a, call("EQL", num(2)))
	if !isStar(plus.Kids[2]) || plus.Kids[1].Kind != api.FormInt || isStar(same.Kids[2]) || !isStar(same.Kids[1]) || !isStar(times.Kids[1]) || !isStar(times.Kids[2]) {
		t.Errorf("%s, %s, %s", text(plus), text(same), text(times))
	}
	huge, e := types.Plus(read(t, "(and integer (real 1.0d300))"), read(t, "(eql 0)"))
	if e != api.OK || !forms.Equal(huge, read(t, "(integer * *)")) {
		t.Errorf("Plus of what lies beyond = %s, %v", text(huge), e)
	}
}

// square returns the text of (2^n - 1)^2.
func square(n uint) string {
	x := new(big.Int).Lsh(big.NewInt(1), n)
	x.Sub(x, big.NewInt(1))
	return x.Mul(x, x).String()
}

// P14.4: an object is of the type that Of returns, and what has (EQL x) as a part has x.
func TestOfIsRight(t *testing.T) {
	r := rand.New(rand.NewSource(144))
	m := maker{r, t}
	all := atoms(t)
	for range 500 {
		x := pick(r, all)
		if r.Intn(2) == 0 {
			x = forms.Dotted([]api.Form{pick(r, all), pick(r, all)}[:1+r.Intn(2)], pick(r, all))
			all = append(all, x)
		}
		if _, depth := forms.Size(x); depth > 30 {
			continue
		}
		of, e := types.Of(x)
		is, d := types.Typep(x, of)
		if e != api.OK || d != api.OK || !is || types.Check(of) != api.OK {
			t.Fatalf("Of(%s) = %s, %v", text(x), text(of), e)
		}
		b := m.types(r.Intn(8), 0)
		yes, _, e := types.Subtypep(call("EQL", x), b)
		if ofB, d := types.Typep(x, b); e == api.OK && d == api.OK && yes != ofB {
			t.Fatalf("(EQL %s) in %s is %v", text(x), text(b), yes)
		}
	}
}

// Conditions on many different parts of conses, which are independent, have many classes of conses; those that leave the same question are not looked at again and again.
func TestManyClasses(t *testing.T) {
	path := func(p, depth int, leaf api.Form) api.Form {
		for range depth {
			if p%2 == 0 {
				leaf = call("CONS", leaf)
			} else {
				leaf = call("CONS", name("*"), leaf)
			}
			p /= 2
		}
		return leaf
	}
	var l []api.Form
	next := 0
	for i := range 6 {
		var parts []api.Form
		for {
			x := path(next, 4, call("MOD", num(i+1)))
			if types.Check(types.Or(append(parts, x))) != api.OK {
				break
			}
			parts = append(parts, x)
			next++
		}
		l = append(l, types.Or(parts))
	}
	start := time.Now()
	if samples, e := types.Samples(l); e != api.OK || len(samples) < 20 {
		t.Errorf("Samples: %d, %v", len(samples), e)
	}
	if time.Since(start) > 10*time.Second {
		t.Error("Samples takes too long")
	}
}

// No argument is changed, and no result shares memory with one.
func TestMemory(t *testing.T) {
	a := read(t, "(or (member #C(1 2) x::a) (cons (eql 5)))")
	_, w, _ := types.Empty(a)
	_, x, _ := types.Subtypep(a, read(t, "cons"))
	l, _ := types.Samples([]api.Form{a})
	_, low, _, _ := types.Integers(read(t, "(integer 1 5)"))
	for _, f := range append([]api.Form{w, x, low}, l...) {
		for i := range f.Kids {
			f.Kids[i].Text = "9"
			for k := range f.Kids[i].Kids {
				f.Kids[i].Kids[k].Text = "9"
			}
		}
	}
	if !forms.Equal(a, read(t, "(or (member #C(1 2) x::a) (cons (eql 5)))")) {
		t.Error("memory is shared")
	}
}
