package integer_test

import (
	"fmt"
	"math"
	"strings"
	"testing"

	"commonform/api"
	"commonform/integer"
)

func TestText(t *testing.T) {
	for _, c := range []struct {
		x     string
		radix int
		want  string
	}{{"255", 16, "FF"}, {"0", 10, "0"}, {"0", 2, "0"}, {"-1", 10, "-1"}, {"-1295", 36, "-ZZ"}, {"5", 2, "101"}, {"-5", 3, "-12"}, {"1000000000", 10, "1000000000"}, {"1000000001", 10, "1000000001"}, {"4294967296", 10, "4294967296"}, {"10^40", 10, "1" + strings.Repeat("0", 40)}, {"2^64", 2, "1" + strings.Repeat("0", 64)}} {
		s, e := whole(t, c.x).Text(c.radix)
		if s != c.want || e != api.OK {
			t.Errorf("Text of %s in the radix %d = %q, %v", c.x, c.radix, s, e)
		}
	}
	for _, radix := range []int{1, 0, -1, 37, 62, math.MaxInt, math.MinInt} {
		if s, e := integer.New(5).Text(radix); s != "" || e != api.ErrArg {
			t.Errorf("Text in the radix %d = %q, %v", radix, s, e)
		}
	}
}

func TestTextAndParse(t *testing.T) {
	for _, a := range append(numbers(18, 80, 300), numbers(19, 4, 5000)...) {
		x := of(a)
		for radix := 2; radix <= 36; radix++ {
			s, e := x.Text(radix)
			if want := strings.ToUpper(a.Text(radix)); s != want || e != api.OK {
				t.Fatalf("Text of %v in the radix %d = %q, %v", a, radix, s, e)
			}
			y, e := integer.Parse(s, radix)
			fails(t, "Parse of Text", y, e, api.OK)
			same(t, "Parse of Text", y, a)
			y, e = integer.Parse(strings.ToLower(s), radix)
			fails(t, "Parse of small letters", y, e, api.OK)
			same(t, "Parse of small letters", y, a)
			digits, negative := strings.CutPrefix(s, "-")
			sign := "+"
			if negative {
				sign = "-"
			}
			y, e = integer.Parse(sign+"000"+digits, radix)
			fails(t, "Parse with zeros", y, e, api.OK)
			if text, _ := y.Text(radix); text != s {
				t.Fatalf("Text of Parse of %s000%s: %s", sign, digits, text)
			}
		}
		same(t, "the operand", x, a)
	}
}

// The text in the radix 16 is that of the limbs.
func TestTextOfLimbs(t *testing.T) {
	for _, a := range numbers(20, 100, 300) {
		negative, limbs := of(a).Limbs()
		want := ""
		for i := len(limbs) - 1; i >= 0; i-- {
			want += fmt.Sprintf("%08X", limbs[i])
		}
		want = strings.TrimLeft(want, "0")
		if want == "" {
			want = "0"
		}
		if negative {
			want = "-" + want
		}
		if s, _ := of(a).Text(16); s != want {
			t.Errorf("Text of %v: %q, expected %q", a, s, want)
		}
	}
}

func TestParse(t *testing.T) {
	for _, c := range []struct {
		s     string
		radix int
		want  string
	}{{"-0zZ", 36, "-1295"}, {"+7", 10, "7"}, {"-0", 10, "0"}, {"+0", 10, "0"}, {"000", 10, "0"}, {"0000000000000000000012", 10, "12"}, {"ff", 16, "255"}, {"Ff", 16, "255"}, {"101", 2, "5"}, {"z", 36, "35"}, {"-a", 11, "-10"}} {
		x, e := integer.Parse(c.s, c.radix)
		fails(t, "Parse of "+c.s, x, e, api.OK)
		same(t, "Parse of "+c.s, x, bigOf(t, c.want))
	}
	for _, c := range []struct {
		s     string
		radix int
	}{{"", 10}, {"+", 10}, {"-", 10}, {"12a", 10}, {"a", 10}, {"--1", 10}, {"+-1", 10}, {"-+1", 10}, {" 1", 10}, {"1 ", 10}, {"1_0", 10}, {"1.", 10}, {"1/2", 10}, {"2", 2}, {"102", 2}, {"g", 16}, {"é", 36}, {"1\x00", 10}, {"[", 36}, {"`", 36}, {"{", 36}, {"@", 36}, {":", 36}, {"١", 10}, {"123456789a", 10}, {"1-", 10}} {
		x, e := integer.Parse(c.s, c.radix)
		fails(t, fmt.Sprintf("Parse of %q", c.s), x, e, api.ErrForm)
	}
}

func TestParseLimits(t *testing.T) {
	longest := strings.Repeat("9", api.MaxDigits)
	x, e := integer.Parse(longest, 10)
	fails(t, "Parse of 20000 bytes", x, e, api.OK)
	if s, _ := x.Text(10); s != longest {
		t.Error("Parse of 20000 digits: another number")
	}
	for _, s := range []string{longest + "9", "-" + longest, longest + "x", strings.Repeat("0", api.MaxDigits+1)} {
		x, e := integer.Parse(s, 10)
		fails(t, "Parse of 20001 bytes", x, e, api.ErrLarge)
		x, e = integer.Parse(s, 37)
		fails(t, "Parse of 20001 bytes in the radix 37", x, e, api.ErrArg)
	}
	for _, radix := range []int{1, 0, -1, 37, math.MaxInt, math.MinInt} {
		for _, s := range []string{"0", "1", "", "x"} {
			x, e := integer.Parse(s, radix)
			fails(t, "Parse in a wrong radix", x, e, api.ErrArg)
		}
	}
}
