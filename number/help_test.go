package number_test

import (
	"fmt"
	"math"
	"math/big"
	"math/rand"
	"strconv"
	"strings"
	"testing"

	"commonform/api"
	"commonform/number"
)

// In the tests a number is written like 5, -3/4, 1.5s (a FormSingle), 1.5d (a FormDouble), or (1 2) (a FormComplex); -0.0s is the float -0.

// num returns the number of such a text, made by hand.
func num(t *testing.T, s string) api.Form {
	t.Helper()
	if inner, ok := strings.CutPrefix(s, "("); ok {
		re, im, _ := strings.Cut(strings.TrimSuffix(inner, ")"), " ")
		return api.Form{Kind: api.FormComplex, Kids: []api.Form{num(t, re), num(t, im)}}
	}
	switch digits := s[:len(s)-1]; s[len(s)-1] {
	case 's':
		v, err := strconv.ParseFloat(digits, 32)
		if err != nil {
			t.Fatal(err)
		}
		return singleOf(float32(v))
	case 'd':
		v, err := strconv.ParseFloat(digits, 64)
		if err != nil {
			t.Fatal(err)
		}
		return doubleOf(v)
	}
	z, ok := new(big.Rat).SetString(s)
	if !ok {
		t.Fatalf("no number: %q", s)
	}
	return exactOf(z)
}

func singleOf(v float32) api.Form {
	return api.Form{Kind: api.FormSingle, Text: fmt.Sprintf("%08x", math.Float32bits(v))}
}

func doubleOf(v float64) api.Form {
	return api.Form{Kind: api.FormDouble, Text: fmt.Sprintf("%016x", math.Float64bits(v))}
}

func exactOf(z *big.Rat) api.Form {
	if z.IsInt() {
		return api.Form{Kind: api.FormInt, Text: z.Num().String()}
	}
	return api.Form{Kind: api.FormRatio, Text: z.String()}
}

func nums(t *testing.T, l ...string) []api.Form {
	t.Helper()
	var x []api.Form
	for _, s := range l {
		x = append(x, num(t, s))
	}
	return x
}

// valueOf returns the exact value of a real number.
func valueOf(x api.Form) *big.Rat {
	bits, _ := strconv.ParseUint(x.Text, 16, 64)
	switch x.Kind {
	case api.FormSingle:
		return new(big.Rat).SetFloat64(float64(math.Float32frombits(uint32(bits))))
	case api.FormDouble:
		return new(big.Rat).SetFloat64(math.Float64frombits(bits))
	}
	z, _ := new(big.Rat).SetString(x.Text)
	return z
}

func equal(x, y api.Form) bool {
	if x.Kind != y.Kind || x.Text != y.Text || x.Home != y.Home || len(x.Kids) != len(y.Kids) {
		return false
	}
	for i := range x.Kids {
		if !equal(x.Kids[i], y.Kids[i]) {
			return false
		}
	}
	return true
}

// is fails unless the result is this number, without an error, and right.
func is(t *testing.T, what string, got api.Form, e api.Errno, want api.Form) {
	t.Helper()
	if e != api.OK || !equal(got, want) {
		t.Errorf("%s = %v, %v; expected %v", what, short(got), e, short(want))
		return
	}
	if e := number.Check(got); e != api.OK {
		t.Errorf("%s = %v: Check is %v", what, short(got), e)
	}
}

func short(x api.Form) string {
	s := fmt.Sprint(x)
	return s[:min(len(s), 150)]
}

// fails fails unless there is this error, and the zero value with it.
func fails(t *testing.T, what string, got api.Form, e, want api.Errno) {
	t.Helper()
	if e != want || !equal(got, api.Form{}) {
		t.Errorf("%s = %v, %v; expected the error %v", what, short(got), e, want)
	}
}

// A result is the text of an expected number, or ! and the name of an error.
func expect(t *testing.T, what string, got api.Form, e api.Errno, want string) {
	t.Helper()
	errors := map[string]api.Errno{"!arg": api.ErrArg, "!form": api.ErrForm, "!zero": api.ErrZero, "!large": api.ErrLarge, "!over": api.ErrOver, "!none": api.ErrNone, "!type": api.ErrType}
	if wanted, ok := errors[want]; ok {
		fails(t, what, got, e, wanted)
		return
	}
	is(t, what, got, e, num(t, want))
}

// ofBytes returns an integer whose Text has so many bytes.
func ofBytes(n int) api.Form {
	return api.Form{Kind: api.FormInt, Text: strings.Repeat("7", n)}
}

// wrong returns forms that are no numbers, with their errors.
func wrong() []struct {
	f    api.Form
	want api.Errno
} {
	one := api.Form{Kind: api.FormInt, Text: "1"}
	long := ofBytes(api.MaxDigits + 1)
	complexOf := func(kids ...api.Form) api.Form { return api.Form{Kind: api.FormComplex, Kids: kids} }
	ratioOf := func(s string) api.Form { return api.Form{Kind: api.FormRatio, Text: s} }
	intOf := func(s string) api.Form { return api.Form{Kind: api.FormInt, Text: s} }
	singleOf := func(s string) api.Form { return api.Form{Kind: api.FormSingle, Text: s} }
	doubleOf := func(s string) api.Form { return api.Form{Kind: api.FormDouble, Text: s} }
	return []struct {
		f    api.Form
		want api.Errno
	}{
		{api.Form{}, api.ErrType}, {api.Form{Kind: api.FormString, Text: "1"}, api.ErrType}, {api.Form{Kind: api.FormSymbol, Text: "1"}, api.ErrType}, {api.Form{Kind: api.FormChar, Text: "1"}, api.ErrType}, {api.Form{Kind: -1}, api.ErrType}, {api.Form{Kind: 99}, api.ErrType}, {api.Form{Kind: api.FormLabel, Text: "1", Kids: []api.Form{one}}, api.ErrType}, {api.Form{Kind: api.FormString, Text: long.Text}, api.ErrType},
		{long, api.ErrLarge}, {intOf(strings.Repeat("x", api.MaxDigits+1)), api.ErrLarge}, {complexOf(one, long), api.ErrLarge}, {complexOf(long, one), api.ErrLarge}, {ratioOf(long.Text + "/2"), api.ErrLarge}, {singleOf(long.Text), api.ErrLarge}, {complexOf(intOf("01"), long), api.ErrLarge}, {api.Form{Kind: api.FormInt, Text: long.Text, Home: "X"}, api.ErrLarge},
		{intOf(""), api.ErrForm}, {intOf("01"), api.ErrForm}, {intOf("-0"), api.ErrForm}, {intOf("+1"), api.ErrForm}, {intOf("-"), api.ErrForm}, {intOf("1a"), api.ErrForm}, {intOf("1/2"), api.ErrForm}, {intOf("2/1"), api.ErrForm}, {intOf("1."), api.ErrForm}, {intOf(" 1"), api.ErrForm}, {intOf("-01"), api.ErrForm}, {intOf("00"), api.ErrForm},
		{api.Form{Kind: api.FormInt, Text: "1", Home: "X"}, api.ErrForm}, {api.Form{Kind: api.FormInt, Text: "1", Kids: []api.Form{one}}, api.ErrForm}, {api.Form{Kind: api.FormSingle, Text: "3f800000", Home: "X"}, api.ErrForm}, {api.Form{Kind: api.FormDouble, Text: "3ff0000000000000", Kids: []api.Form{one}}, api.ErrForm},
		{ratioOf("4/2"), api.ErrForm}, {ratioOf("2/4"), api.ErrForm}, {ratioOf("1/1"), api.ErrForm}, {ratioOf("1"), api.ErrForm}, {ratioOf("0/2"), api.ErrForm}, {ratioOf("1/0"), api.ErrForm}, {ratioOf("1/-2"), api.ErrForm}, {ratioOf("01/2"), api.ErrForm}, {ratioOf("1/02"), api.ErrForm}, {ratioOf("+1/2"), api.ErrForm}, {ratioOf("1/2/3"), api.ErrForm}, {ratioOf("a/b"), api.ErrForm}, {ratioOf(""), api.ErrForm}, {ratioOf("100000000000000000000000000000000000000/200000000000000000000000000000000000001/1"), api.ErrForm}, {ratioOf("30000000000000000000000/90000000000000000000001000"), api.ErrForm},
		{singleOf("7f800000"), api.ErrForm}, {singleOf("ff800000"), api.ErrForm}, {singleOf("7fc00000"), api.ErrForm}, {singleOf("3F800000"), api.ErrForm}, {singleOf("3f80000"), api.ErrForm}, {singleOf("3f8000000"), api.ErrForm}, {singleOf("3ff0000000000000"), api.ErrForm}, {singleOf(""), api.ErrForm}, {singleOf("+f800000"), api.ErrForm}, {singleOf("3f80000g"), api.ErrForm}, {singleOf("0x3f8000"), api.ErrForm}, {singleOf("1.5"), api.ErrForm},
		{doubleOf("7ff0000000000000"), api.ErrForm}, {doubleOf("fff8000000000000"), api.ErrForm}, {doubleOf("3f800000"), api.ErrForm}, {doubleOf("3FF0000000000000"), api.ErrForm}, {doubleOf("3ff00000000000000"), api.ErrForm},
		{complexOf(), api.ErrForm}, {complexOf(one), api.ErrForm}, {complexOf(one, one, one), api.ErrForm}, {complexOf(one, intOf("0")), api.ErrForm}, {complexOf(one, singleOf("3f800000")), api.ErrForm}, {complexOf(singleOf("3f800000"), doubleOf("3ff0000000000000")), api.ErrForm}, {complexOf(singleOf("3f800000"), one), api.ErrForm}, {complexOf(one, complexOf(one, one)), api.ErrForm}, {complexOf(complexOf(one, one), one), api.ErrForm}, {complexOf(one, api.Form{Kind: api.FormString, Text: "1"}), api.ErrForm}, {complexOf(api.Form{}, one), api.ErrForm}, {complexOf(one, intOf("01")), api.ErrForm}, {complexOf(ratioOf("2/4"), one), api.ErrForm}, {complexOf(singleOf("7f800000"), singleOf("3f800000")), api.ErrForm}, {api.Form{Kind: api.FormComplex, Text: "x", Kids: []api.Form{one, one}}, api.ErrForm}, {api.Form{Kind: api.FormComplex, Home: "X", Kids: []api.Form{one, one}}, api.ErrForm},
	}
}

// samples returns numbers of all kinds: edges, and others of many sizes.
func samples(t *testing.T, seed int64, n int) []api.Form {
	t.Helper()
	l := nums(t, "0", "1", "-1", "2", "-2", "1/2", "-1/2", "1/3", "7/5", "10", "100000000000000000000", "-1/100000000000000000000", "16777217", "9007199254740993", "0s", "-0.0s", "1s", "-1s", "0.1s", "2.5s", "-7.25s", "1e-45s", "1e30s", "-1e30s", "16777216s", "0d", "-0.0d", "1d", "-1d", "0.1d", "2.5d", "1e-320d", "1e200d", "9007199254740992d", "(1 2)", "(0 1)", "(-1/2 1/3)", "(1s 0s)", "(1s -0.0s)", "(0s 2.5s)", "(-0.0d 1d)", "(1.5d -2d)")
	r := rand.New(rand.NewSource(seed))
	for len(l) < n {
		l = append(l, randomNumber(r))
	}
	return l
}

func randomNumber(r *rand.Rand) api.Form {
	switch r.Intn(8) {
	case 0, 1, 2:
		return randomExact(r)
	case 3, 4:
		return singleOf(float32(r.NormFloat64() * math.Pow(10, float64(r.Intn(12)-4))))
	case 5, 6:
		return doubleOf(r.NormFloat64() * math.Pow(10, float64(r.Intn(30)-12)))
	}
	im := randomExact(r)
	if im.Text == "0" {
		im.Text = "1"
	}
	return api.Form{Kind: api.FormComplex, Kids: []api.Form{randomExact(r), im}}
}

func randomExact(r *rand.Rand) api.Form {
	top := new(big.Int).Rand(r, new(big.Int).Lsh(big.NewInt(1), uint(r.Intn(90)+1)))
	bottom := new(big.Int).Rand(r, new(big.Int).Lsh(big.NewInt(1), uint(r.Intn(40)+1)))
	bottom.Add(bottom, big.NewInt(1))
	if r.Intn(3) == 0 {
		bottom.SetInt64(1)
	}
	if r.Intn(2) == 0 {
		top.Neg(top)
	}
	return exactOf(new(big.Rat).SetFrac(top, bottom))
}

// exacts returns the samples that are rational, or have rational parts.
func exacts(t *testing.T, seed int64, n int) []api.Form {
	t.Helper()
	var l []api.Form
	for _, x := range samples(t, seed, n) {
		if isRational(x) || x.Kind == api.FormComplex && isRational(x.Kids[0]) {
			l = append(l, x)
		}
	}
	return l
}

func reals(t *testing.T, seed int64, n int) []api.Form {
	t.Helper()
	var l []api.Form
	for _, x := range samples(t, seed, n) {
		if x.Kind != api.FormComplex {
			l = append(l, x)
		}
	}
	return l
}

func isRational(x api.Form) bool {
	return x.Kind == api.FormInt || x.Kind == api.FormRatio
}
