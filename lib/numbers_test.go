package lib_test

import (
	"math/rand"
	"strconv"
	"testing"

	"commonform/api"
	"commonform/number"
)

func TestNumbers(t *testing.T) {
	const great = "1152921504606846976" // the least integer that is no fixnum
	check(t, newWorld(t), []row{
		{"(+)", "0"}, {"(+ 5)", "5"}, {"(+ 1 2 3)", "6"}, {"(+ 1/2 1/2)", "1"}, {"(+ 1 0.5)", "1.5"}, {"(+ 1152921504606846975 1)", great}, {"(+ #c(1 2) #c(1 -2))", "2"}, {"(+ -0.0)", "0.0"}, {"(+ a)", "! TYPE-ERROR a number"}, {"(+ 1 \"a\" b)", "! TYPE-ERROR \"a\" number"},
		{"(*)", "1"}, {"(* 2 3 4)", "24"}, {"(* 1073741824 1073741824)", great}, {"(* 2 0.5)", "1.0"},
		{"(- 5)", "-5"}, {"(- 5 2 1)", "2"}, {"(- 1152921504606846976 1)", "1152921504606846975"}, {"(- 0.0)", "-0.0"}, {"(-)", "! PROGRAM-ERROR -"}, {"(- nil)", "! TYPE-ERROR nil number"},
		{"(/ 2)", "1/2"}, {"(/ 12 2 3)", "2"}, {"(/ 1 0)", "! DIVISION-BY-ZERO"}, {"(/ 0)", "! DIVISION-BY-ZERO"}, {"(/ 1.0 0.0)", "! DIVISION-BY-ZERO"}, {"(/)", "! PROGRAM-ERROR /"},
		{"(* 1e38 1e38)", "! ARITHMETIC-ERROR"}, {"(= 1 1.0 1)", "t"}, {"(= 1)", "t"}, {"(= 1 1 2)", "nil"}, {"(= #c(1 1) #c(1.0 1.0))", "t"}, {"(=)", "! PROGRAM-ERROR ="},
		{"(/= 1 2 3)", "t"}, {"(/= 1 2 1)", "nil"}, {"(/= 1)", "t"}, {"(/= 1 2 3 2.0)", "nil"},
		{"(< 1 2 3)", "t"}, {"(< 1 1)", "nil"}, {"(< 1 3 2)", "nil"}, {"(<= 1 1 2)", "t"}, {"(<= 2 1)", "nil"}, {"(> 3 2 1)", "t"}, {"(> 1 1)", "nil"}, {"(>= 2 2 1)", "t"}, {"(>= 1 2)", "nil"}, {"(< 1)", "t"}, {"(< #c(1 2))", "! TYPE-ERROR #C(1 2) real"}, {"(< 1 a)", "! TYPE-ERROR a real"}, {"(< 2 1 a)", "! TYPE-ERROR a real"},
		{"(max 1 3 2)", "3"}, {"(max 1 1.0)", "1"}, {"(max 1.0 1)", "1.0"}, {"(min 2 1.0 1)", "1.0"}, {"(min 2)", "2"}, {"(max)", "! PROGRAM-ERROR max"}, {"(min #c(1 2))", "! TYPE-ERROR #C(1 2) real"},
		{"(abs -5)", "5"}, {"(abs -1/2)", "1/2"}, {"(abs -0.0)", "0.0"}, {"(abs #c(1 2))", "! TYPE-ERROR #C(1 2) real"},
		{"(floor -7 2)", "-4 1"}, {"(ceiling -7 2)", "-3 -1"}, {"(truncate -7 2)", "-3 -1"}, {"(round -7 2)", "-4 1"}, {"(floor 7/2)", "3 1/2"}, {"(round 5/2)", "2 1/2"}, {"(floor -3.5 2)", "-2 0.5"}, {"(floor 1 0)", "! DIVISION-BY-ZERO"}, {"(floor 1 0.0)", "! DIVISION-BY-ZERO"}, {"(floor #c(1 2) a)", "! TYPE-ERROR #C(1 2) real"}, {"(floor 1 a)", "! TYPE-ERROR a real"}, {"(floor)", "! PROGRAM-ERROR floor"}, {"(floor 1 2 3)", "! PROGRAM-ERROR floor"},
		{"(mod -7 2)", "1"}, {"(mod 7 -2)", "-1"}, {"(rem -7 2)", "-1"}, {"(mod 1)", "! PROGRAM-ERROR mod"}, {"(rem 1 0)", "! DIVISION-BY-ZERO"},
		{"(gcd)", "0"}, {"(gcd 12 -18)", "6"}, {"(lcm)", "1"}, {"(lcm 4 6)", "12"}, {"(gcd 1/2)", "! TYPE-ERROR 1/2 integer"},
		{"(logand)", "-1"}, {"(logand 12 10)", "8"}, {"(logior)", "0"}, {"(logior 12 10)", "14"}, {"(logxor)", "0"}, {"(logxor 12 10)", "6"}, {"(logand 1.0)", "! TYPE-ERROR 1.0 integer"}, {"(lognot 5)", "-6"}, {"(lognot -1)", "0"},
		{"(ash 1 3)", "8"}, {"(ash -5 -1)", "-3"}, {"(ash 1 -70000)", "0"}, {"(ash -1 -1180591620717411303424)", "-1"}, {"(ash 0 1180591620717411303424)", "0"}, {"(ash 0 65537)", "0"}, {"(ash 1 65537)", "! ARITHMETIC-ERROR"}, {"(ash 1 65536)", "! ARITHMETIC-ERROR"}, {"(ash -1 1180591620717411303424)", "! ARITHMETIC-ERROR"}, {"(ash 1.0 1)", "! TYPE-ERROR 1.0 integer"},
		{"(expt 2 10)", "1024"}, {"(expt 2 -2)", "1/4"}, {"(expt 0 -1)", "! DIVISION-BY-ZERO"}, {"(expt 1 4096)", "1"}, {"(expt 1 4097)", "! ARITHMETIC-ERROR"}, {"(expt 1 -4097)", "! ARITHMETIC-ERROR"}, {"(expt 1 1180591620717411303424)", "! ARITHMETIC-ERROR"}, {"(expt 2.0 3)", "8.0"}, {"(expt 2 0.5)", "! TYPE-ERROR 0.5 integer"}, {"(expt #c(0 1) 2)", "-1"},
		{"(numerator 6/4)", "3"}, {"(denominator 6/4)", "2"}, {"(numerator 1.0)", "! TYPE-ERROR 1.0 rational"}, {"(denominator 5)", "1"},
		{"(complex 1)", "1"}, {"(complex 1 0)", "1"}, {"(complex 1 2)", "#C(1 2)"}, {"(complex 1.0)", "#C(1.0 0.0)"}, {"(complex 1 2.0)", "#C(1.0 2.0)"}, {"(complex #c(1 2))", "! TYPE-ERROR #C(1 2) real"},
		{"(realpart #c(1 2))", "1"}, {"(imagpart #c(1 2))", "2"}, {"(realpart 5)", "5"}, {"(imagpart 5)", "0"}, {"(imagpart 1.5)", "0.0"}, {"(realpart a)", "! TYPE-ERROR a number"},
		{"(rational 0.5)", "1/2"}, {"(rationalize 0.1)", "1/10"}, {"(rational #c(1 2))", "! TYPE-ERROR #C(1 2) real"},
		{"(float 1/2)", "0.5"}, {"(float 0.5)", "0.5"}, {"(float 0.5d0)", "0.5d0"}, {"(float 1 1.0d0)", "1.0d0"}, {"(float 0.5d0 1.0)", "0.5"}, {"(float 1 1)", "1.0"}, {"(float 0.5d0 1)", "0.5d0"}, {"(float 1d300 1.0)", "! ARITHMETIC-ERROR"}, {"(float 1 a)", "! TYPE-ERROR a real"},
	})
}

// The argument itself is what MAX, MIN and FLOAT return.
func TestNumberIdentity(t *testing.T) {
	w := newWorld(t)
	x := object(t, w, "1.5")
	set(t, w, "X", x)
	for _, s := range []string{"(max 1 $x)", "(min $x 1.5d0)", "(float $x)", "(float $x 1)"} {
		if call(t, w, s).Values[0] != x {
			t.Errorf("%s is another object", s)
		}
	}
	for _, s := range []string{"(+ $x)", "(abs $x)", "(realpart $x)", "(float $x 1.0)"} {
		if call(t, w, s).Values[0] == x {
			t.Errorf("%s is the same object", s)
		}
	}
}

// What has the kind of a number and is none.
func TestWrongNumbers(t *testing.T) {
	w := newWorld(t)
	set(t, w, "INF", raw(t, w, api.FormSingle, "7f800000"))
	set(t, w, "BAD", raw(t, w, api.FormInt, "x"))
	set(t, w, "EMPTY", raw(t, w, api.FormInt, ""))
	set(t, w, "FIELDS", making(t, w, api.FormInt))
	set(t, w, "LOOP", making(t, w, api.FormComplex, fix(1), fix(2)))
	loop, _ := w.Value(symbol(t, w, "COMMON-LISP-USER", "LOOP"))
	w.Heap().Set(loop, 1, loop)
	for _, c := range []struct{ call, want string }{
		{"(+ $inf)", "! TYPE-ERROR ? number"}, {"(+ $bad)", "! TYPE-ERROR error 4 number"}, {"(+ $fields)", "! TYPE-ERROR"}, {"(+ $loop)", "! TYPE-ERROR"}, {"(max 1 $bad)", "! TYPE-ERROR error 4 number"}, {"(numberp $fields)", "nil"}, {"(numberp $loop)", "nil"}, {"(ash $bad 1)", "! TYPE-ERROR error 4 number"}, {"(ash 1 $empty)", ""}, {"(nth $empty nil)", ""}, {"(code-char $empty)", ""}, {"(ash 1 $bad)", ""}, {"(expt 2 $bad)", ""}, {"(nth $bad nil)", ""}, {"(gcd $bad)", "! TYPE-ERROR error 4 number"},
	} {
		got := told(w, call(t, w, c.call))
		if len(got) < len(c.want) || got[:len(c.want)] != c.want {
			t.Errorf("%s is %s; want %s", c.call, got, c.want)
		}
	}
	// A text that layer 5 does not take.
	long := "1"
	for len(long) <= api.MaxDigits {
		long += long
	}
	set(t, w, "LONG", raw(t, w, api.FormInt, long))
	for _, s := range []string{"(+ $long 1)", "(< $long 1)", "(= 1 $long)", "(gcd $long)"} {
		if a := call(t, w, s); a.Kind != 1 || a.Fault.Type != "ARITHMETIC-ERROR" || len(a.Fault.Data) > 0 {
			t.Errorf("%s is %v; want ARITHMETIC-ERROR", s, a)
		}
	}
}

// Sums and the like are those of layer 5 from left to right.
func TestArithmetic(t *testing.T) {
	w := newWorld(t)
	texts := []string{"0", "1", "-7", "3/4", "-5/3", "1.5", "-0.0", "2.5d0", "1d300", "1e38", "#c(1 2)", "#c(0.5 -1)", "1152921504606846975", "-1152921504606846977"}
	r := rand.New(rand.NewSource(5))
	for i := range 3000 {
		if i%200 == 0 {
			w = newWorld(t)
		}
		var l []api.Form
		s := ""
		for range 1 + r.Intn(4) {
			x := texts[r.Intn(len(texts))]
			s += " " + x
			l = append(l, read(t, x))
		}
		for _, c := range []struct {
			name  string
			first api.Form
			rest  []api.Form
			f     func(x, y api.Form) (api.Form, api.Errno)
		}{
			{"+", api.Form{Kind: api.FormInt, Text: "0"}, l, number.Add},
			{"*", api.Form{Kind: api.FormInt, Text: "1"}, l, number.Mul},
			{"-", l[0], l[1:], number.Sub},
			{"/", l[0], l[1:], number.Div},
		} {
			if len(c.rest) == 0 {
				continue
			}
			sum, e := c.first, api.OK
			for _, x := range c.rest {
				if e == api.OK {
					sum, e = c.f(sum, x)
				}
			}
			want := text(sum)
			switch e {
			case api.ErrZero:
				want = "! DIVISION-BY-ZERO"
			case api.ErrOver, api.ErrLarge:
				want = "! ARITHMETIC-ERROR"
			}
			if got := told(w, call(t, w, "("+c.name+s+")")); got != want {
				t.Fatalf("(%s%s) is %s; want %s", c.name, s, got, want)
			}
		}
	}
	for n := int64(1152921504606846970); n < 1152921504606846980; n++ {
		s := strconv.FormatInt(n, 10)
		x := call(t, w, "(+ "+s+")").Values[0]
		if _, ok := x.Fixnum(); ok != (n < 1152921504606846976) {
			t.Errorf("%s is a fixnum: %v", s, ok)
		}
	}
}
