package types_test

import (
	"math"
	"math/big"
	"math/rand"
	"slices"
	"strconv"
	"strings"
	"testing"

	"commonform/api"
	"commonform/forms"
	"commonform/printer"
	"commonform/reader"
)

// read returns the form of a text, with COMMON-LISP as the package.
func read(t *testing.T, s string) api.Form {
	t.Helper()
	r, at, e := reader.One(reader.Standard("COMMON-LISP"), s)
	if e != api.OK {
		t.Fatalf("One(%q): %d, %v", s, at, e)
	}
	return r.Form
}

// readAll returns the forms of a text.
func readAll(t *testing.T, s string) []api.Form {
	t.Helper()
	return read(t, "#("+s+")").Kids
}

func text(f api.Form) string {
	s, e := printer.Text(f, true)
	if e != api.OK {
		return "?"
	}
	return s
}

func node(kind int, text string, kids ...api.Form) api.Form {
	return api.Form{Kind: kind, Text: text, Kids: kids}
}

func num(n int) api.Form {
	return node(api.FormInt, strconv.Itoa(n))
}

// single and double return floats by their values.
func single(v float32) api.Form {
	s := strconv.FormatUint(uint64(math.Float32bits(v)), 16)
	return node(api.FormSingle, strings.Repeat("0", 8-len(s))+s)
}

func double(v float64) api.Form {
	s := strconv.FormatUint(math.Float64bits(v), 16)
	return node(api.FormDouble, strings.Repeat("0", 16-len(s))+s)
}

// valueOf returns the exact value of a real number.
func valueOf(x api.Form) *big.Rat {
	bits, _ := strconv.ParseUint(x.Text, 16, 64)
	switch x.Kind {
	case api.FormSingle:
		return new(big.Rat).SetFloat64(float64(math.Float32frombits(uint32(bits))))
	case api.FormDouble:
		return new(big.Rat).SetFloat64(math.Float64frombits(bits))
	}
	v, _ := new(big.Rat).SetString(x.Text)
	return v
}

// isOf is the definition of types: whether an object is of a right type.
func isOf(x, t api.Form) bool {
	if t.Kind == api.FormSymbol {
		return isNamed(x, t.Text)
	}
	l := t.Kids[1 : len(t.Kids)-1]
	each := func(part api.Form) bool { return isOf(x, part) }
	is := func(y api.Form) bool { return forms.Equal(x, y) }
	switch name := t.Kids[0].Text; name {
	case "AND":
		return !slices.ContainsFunc(l, func(part api.Form) bool { return !isOf(x, part) })
	case "OR":
		return slices.ContainsFunc(l, each)
	case "NOT":
		return !isOf(x, l[0])
	case "MEMBER", "EQL":
		return slices.ContainsFunc(l, is)
	case "UNSIGNED-BYTE", "SIGNED-BYTE", "MOD":
		return isByte(x, name, l[0])
	case "CONS":
		return x.Kind == api.FormCons && (len(l) < 1 || isPart(x.Kids[0], l[0])) && (len(l) < 2 || isPart(forms.Dotted(x.Kids[1:len(x.Kids)-1], x.Kids[len(x.Kids)-1]), l[1]))
	case "STRING", "BIT-VECTOR", "SIMPLE-VECTOR":
		return isNamed(x, name) && hasDims(x, forms.List(l))
	case "VECTOR":
		return isNamed(x, name) && hasDims(x, forms.List(l[1:]))
	case "ARRAY":
		return isNamed(x, name) && hasDims(x, l[1])
	default:
		return isNamed(x, name) && lies(x, l)
	}
}

func isStar(f api.Form) bool {
	return forms.Is(f, "COMMON-LISP", "*")
}

func isPart(x, t api.Form) bool {
	return isStar(t) || isOf(x, t)
}

func isByte(x api.Form, name string, width api.Form) bool {
	if x.Kind != api.FormInt {
		return false
	}
	v, _ := new(big.Int).SetString(x.Text, 10)
	n, _ := strconv.Atoi(width.Text)
	switch name {
	case "MOD":
		return v.Sign() >= 0 && v.Cmp(big.NewInt(int64(n))) < 0
	case "UNSIGNED-BYTE":
		return v.Sign() >= 0 && v.BitLen() <= n
	}
	if v.Sign() < 0 {
		v.Not(v)
	}
	return v.BitLen() <= n-1
}

// lies reports whether a real number lies between bounds.
func lies(x api.Form, bounds []api.Form) bool {
	for i, b := range bounds {
		if isStar(b) {
			continue
		}
		isOpen := b.Kind == api.FormCons
		if isOpen {
			b = b.Kids[0]
		}
		sign := valueOf(x).Cmp(valueOf(b))
		if i == 1 {
			sign = -sign
		}
		if sign < 0 || sign == 0 && isOpen {
			return false
		}
	}
	return true
}

// hasDims reports whether the dimensions of an array fit: *, how many they are, or a list.
func hasDims(x, wanted api.Form) bool {
	dims, _ := forms.Dimensions(x)
	if isStar(wanted) {
		return true
	}
	l, isList := forms.Items(wanted)
	if !isList {
		return strconv.Itoa(len(dims)) == wanted.Text
	}
	return slices.EqualFunc(dims, l, func(d int, w api.Form) bool { return isStar(w) || strconv.Itoa(d) == w.Text })
}

func isNamed(x api.Form, name string) bool {
	one := func(kinds ...int) bool { return slices.Contains(kinds, x.Kind) }
	isSymbol := x.Kind == api.FormSymbol && x.Home != "%"
	small := func() bool {
		v, _ := new(big.Int).SetString(x.Text, 10)
		limit := new(big.Int).Lsh(big.NewInt(1), 60)
		return v.Cmp(limit) < 0 && v.Cmp(new(big.Int).Neg(limit)) >= 0
	}
	switch name {
	case "T":
		return true
	case "NIL":
		return false
	case "ATOM":
		return !one(api.FormCons)
	case "CONS":
		return one(api.FormCons)
	case "NULL":
		return forms.IsNil(x)
	case "LIST":
		return one(api.FormCons) || forms.IsNil(x)
	case "SYMBOL":
		return isSymbol
	case "KEYWORD":
		return isSymbol && x.Home == "KEYWORD"
	case "BOOLEAN":
		return forms.IsNil(x) || forms.Is(x, "COMMON-LISP", "T")
	case "NUMBER":
		return forms.Number(x)
	case "REAL":
		return forms.Number(x) && !one(api.FormComplex)
	case "RATIONAL":
		return one(api.FormInt, api.FormRatio)
	case "INTEGER":
		return one(api.FormInt)
	case "RATIO":
		return one(api.FormRatio)
	case "FLOAT":
		return one(api.FormSingle, api.FormDouble)
	case "SINGLE-FLOAT":
		return one(api.FormSingle)
	case "DOUBLE-FLOAT":
		return one(api.FormDouble)
	case "COMPLEX":
		return one(api.FormComplex)
	case "BIT":
		return one(api.FormInt) && (x.Text == "0" || x.Text == "1")
	case "FIXNUM":
		return one(api.FormInt) && small()
	case "BIGNUM":
		return one(api.FormInt) && !small()
	case "UNSIGNED-BYTE":
		return one(api.FormInt) && x.Text[0] != '-'
	case "CHARACTER":
		return one(api.FormChar)
	case "STRING":
		return one(api.FormString)
	case "BIT-VECTOR":
		return one(api.FormBits)
	case "SIMPLE-VECTOR":
		return one(api.FormVector)
	case "VECTOR":
		return one(api.FormString, api.FormBits, api.FormVector)
	case "ARRAY":
		return one(api.FormString, api.FormBits, api.FormVector, api.FormArray)
	case "SEQUENCE":
		return one(api.FormCons, api.FormString, api.FormBits, api.FormVector) || forms.IsNil(x)
	case "FUNCTION":
		return x.Kind == api.FormSymbol && x.Home == "%" && (x.Text == "BUILTIN" || x.Text == "CLOSURE")
	case "HASH-TABLE":
		return x.Kind == api.FormSymbol && x.Home == "%" && x.Text == "TABLE"
	}
	panic("no type: " + name)
}

var allNames = strings.Fields("T NIL ATOM CONS NULL LIST SYMBOL KEYWORD BOOLEAN NUMBER REAL RATIONAL INTEGER RATIO FLOAT SINGLE-FLOAT DOUBLE-FLOAT COMPLEX BIT FIXNUM BIGNUM UNSIGNED-BYTE CHARACTER STRING BIT-VECTOR SIMPLE-VECTOR VECTOR ARRAY SEQUENCE FUNCTION HASH-TABLE")

// atoms are objects around all that random types mention.
func atoms(t *testing.T) []api.Form {
	l := readAll(t, `nil t a b :a :b #:a x::a * #\a #\b #\c #C(0 1) #C(1 2) #C(1.0 2.0) #C(1.0d0 2.0d0) "" "a" "ab" "éé" "abc" "abcdef" #* #*0 #*01 #*111 #() #(1) #(1 2) #(a b c) #0Aa #2A() #2A((1)) #2A((1 2)) #2A((1 2) (3 4)) #3A(((1))) #3A(((1 2) (3 4))) #4A((((1)))) #5A(((((1))))) %::builtin %::closure %::table %::object %::unbound`)
	l = append(l, node(api.FormArray, "3 0"), node(api.FormArray, "0 3"), node(api.FormArray, "2 0 2"), node(api.FormArray, "0 0 0 0 0 0 0"))
	for n := -9; n <= 9; n++ {
		l = append(l, num(n))
		for _, d := range []string{"2", "3", "4", "5"} {
			v, _ := new(big.Rat).SetString(strconv.Itoa(n) + "/" + d)
			if !v.IsInt() {
				l = append(l, node(api.FormRatio, v.String()))
			}
		}
		for _, v := range []float64{float64(n), float64(n) + 0.5, float64(n) / 10} {
			f := float32(v)
			l = append(l, single(f), single(math.Nextafter32(f, 99)), single(math.Nextafter32(f, -99)), double(v), double(math.Nextafter(v, 99)), double(math.Nextafter(v, -99)), double(float64(f)))
		}
	}
	l = append(l, single(float32(math.Copysign(0, -1))), double(math.Copysign(0, -1)), single(math.MaxFloat32), single(-math.MaxFloat32), double(math.MaxFloat64), double(-math.MaxFloat64))
	for _, s := range []string{"1152921504606846976", "1152921504606846975", "-1152921504606846976", "-1152921504606846977", "255", "256", "127", "128", "-128", "-129", "1606938044258990275541962092341162602522202993782792835301376", "1606938044258990275541962092341162602522202993782792835301375"} {
		l = append(l, node(api.FormInt, s))
	}
	return l
}

func pick[T any](r *rand.Rand, l []T) T {
	return l[r.Intn(len(l))]
}

// A maker makes types.
type maker struct {
	r *rand.Rand
	t *testing.T
}

func name(s string) api.Form {
	return forms.Symbol("COMMON-LISP", s)
}

func call(head string, l ...api.Form) api.Form {
	return forms.Call(head, l)
}

// bound returns a bound: rational unless there may be floats, and an integer for integers.
func (m maker) bound(head string) api.Form {
	if m.r.Intn(4) == 0 {
		return name("*")
	}
	n := m.r.Intn(19) - 9
	x := num(n)
	switch k := m.r.Intn(4); {
	case head == "INTEGER":
	case k == 0 && head != "INTEGER" && n%2 != 0:
		x = node(api.FormRatio, strconv.Itoa(n)+"/2")
	case k == 1 && head != "RATIONAL":
		x = single(float32(n) / 10)
	case k == 2 && head != "RATIONAL":
		x = double(float64(n) / 10)
	}
	if m.r.Intn(3) == 0 {
		return forms.List([]api.Form{x})
	}
	return x
}

// size returns * or a number.
func (m maker) size(n int) api.Form {
	if m.r.Intn(4) == 0 {
		return name("*")
	}
	return num(m.r.Intn(n))
}

func (m maker) object() api.Form {
	return pick(m.r, readAll(m.t, `nil t a :a #\a #\b 0 1 -3 5 1/2 -7/3 0.0 -0.0 0.0d0 0.5 1.0 0.1 #C(0 1) #C(1 2) #C(1.0 2.0)`))
}

func (m maker) leaf() api.Form {
	switch m.r.Intn(8) {
	case 0, 1:
		head := pick(m.r, []string{"INTEGER", "RATIONAL", "REAL", "FLOAT", "SINGLE-FLOAT", "DOUBLE-FLOAT"})
		return call(head, []api.Form{m.bound(head), m.bound(head)}[:m.r.Intn(3)]...)
	case 2:
		return call(pick(m.r, []string{"UNSIGNED-BYTE", "SIGNED-BYTE", "MOD"}), num(1+m.r.Intn(9)))
	case 3:
		return call("EQL", m.object())
	case 4:
		return call("MEMBER", []api.Form{m.object(), m.object(), m.object()}[:m.r.Intn(4)]...)
	case 5:
		switch m.r.Intn(3) {
		case 0:
			return call(pick(m.r, []string{"STRING", "BIT-VECTOR", "SIMPLE-VECTOR"}), m.size(4))
		case 1:
			return call("VECTOR", name("*"), m.size(4))
		}
		d := m.size(5)
		if m.r.Intn(2) == 0 {
			d = forms.List([]api.Form{m.size(4), m.size(4), m.size(3)}[:m.r.Intn(4)])
		}
		return call("ARRAY", name("*"), d)
	}
	return name(pick(m.r, allNames))
}

// types returns a type of a size.
func (m maker) types(size, conses int) api.Form {
	if size <= 1 {
		return m.leaf()
	}
	half := func(conses int) api.Form { return m.types(size/2, conses) }
	switch k := m.r.Intn(7); {
	case k < 2 && conses < 4:
		l := []api.Form{half(conses + 1), half(conses + 1)}
		for i := range l {
			if m.r.Intn(6) == 0 {
				l[i] = name("*")
			}
		}
		return call("CONS", l[:m.r.Intn(3)]...)
	case k == 2:
		return call("NOT", m.types(size-1, conses))
	case k < 5:
		return call("AND", half(conses), half(conses))
	}
	return call("OR", []api.Form{half(conses), half(conses), half(conses)}[:m.r.Intn(4)]...)
}
