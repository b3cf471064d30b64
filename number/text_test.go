package number_test

import (
	"fmt"
	"math"
	"strings"
	"testing"

	"commonform/api"
	"commonform/number"
)

func TestRead(t *testing.T) {
	for _, c := range []struct {
		s      string
		base   int
		double bool
		want   string
	}{
		{"+06/4", 10, false, "3/2"}, {"12", 10, false, "12"}, {"-12", 10, true, "-12"}, {"+012", 10, false, "12"}, {"-0", 10, false, "0"}, {"4/2", 10, false, "2"}, {"0/7", 10, false, "0"}, {"-0/7", 10, false, "0"}, {"-6/4", 10, false, "-3/2"}, {"ff", 16, false, "255"}, {"-Ff", 16, false, "-255"}, {"z/Z", 36, false, "1"}, {"101", 2, false, "5"}, {"101/10", 2, false, "5/2"},
		{"10.", 2, false, "10"}, {"10.", 10, false, "10"}, {"-12.", 16, false, "-12"}, {"+9.", 8, true, "9"}, {"0012.", 3, false, "12"}, {"1.", 10, true, "1"},
		{"1e5", 10, false, "100000s"}, {"1e5", 10, true, "100000d"}, {"1e5", 16, false, "485"}, {"1E5", 15, true, "440"}, {"1e5", 14, true, "100000d"}, {"1e5", 2, false, "100000s"}, {"12e1", 2, false, "120s"}, {"1e5/2", 16, false, "485/2"}, {"1d0", 10, false, "1d"}, {"1d0", 16, true, "464"}, {"1f0", 16, true, "496"}, {"1f0", 15, true, "1s"}, {"1l0", 36, true, "2052"},
		{"1.5", 10, false, "1.5s"}, {"1.5", 10, true, "1.5d"}, {"1.5", 16, false, "1.5s"}, {"1.5", 2, true, "1.5d"}, {".5", 10, true, "0.5d"}, {"-.5", 10, false, "-0.5s"}, {"+.5e1", 10, false, "5s"}, {"1.e2", 10, false, "100s"}, {"1.e2", 36, false, "100s"}, {"1.5e2", 10, false, "150s"}, {"5S-1", 10, true, "0.5s"}, {"5s-1", 10, true, "0.5s"}, {"5F+1", 10, true, "50s"}, {"5f1", 10, true, "50s"}, {"5D1", 10, false, "50d"}, {"5L1", 10, false, "50d"}, {"5l-1", 10, false, "0.5d"}, {"5E1", 10, false, "50s"}, {"5e1", 10, true, "50d"}, {"-0.0", 10, false, "-0.0s"}, {"-0.0", 10, true, "-0.0d"}, {"-0e0", 10, false, "-0.0s"}, {"-.0d0", 10, false, "-0.0d"}, {"1e-60", 10, false, "0s"}, {"-1e-60", 10, false, "-0.0s"}, {"0e99999999999999999999", 10, false, "0s"}, {"16777217.0", 10, false, "16777216s"}, {"16777217.0", 10, true, "16777217d"}, {"0.1", 10, false, "0.1s"}, {"1.0e38", 10, false, "1e38s"}, {"1e39", 10, true, "1e39d"}, {"1d39", 10, false, "1e39d"},
		{"1/0", 10, false, "!zero"}, {"0/0", 10, false, "!zero"}, {"-5/000", 10, false, "!zero"}, {"1e39", 10, false, "!over"}, {"1f39", 10, true, "!over"}, {"-1e999999999999", 10, true, "!over"}, {"1d309", 10, false, "!over"}, {"1.0s39", 10, true, "!over"},
	} {
		got, e := number.Read(c.s, c.base, c.double)
		expect(t, fmt.Sprintf("Read of %s, base %d", c.s, c.base), got, e, c.want)
	}
	for _, s := range []string{"", "+", "-", ".", "+.", "-.", "1+", "1-", "+-1", "--1", "1/", "/2", "/", "1/-2", "1/+2", "1//2", "1/2/3", "1/2.", "1./2", "1.5/2", "..", "1..", ".5.", "1.5.", "1.2.3", "1e", "1e+", "1e-", ".e1", "+.e1", "e1", "1e1.", "1e1.5", "1e1e1", "1x0", "1g0", "1ee1", "1e+-1", "1 ", " 1", "1_0", "1,0", "a", "1a", "0x10", "1.5x2", "1.5 e2", "１", "é", "1é", "1e1é", "#b1", "1t0", "1h0", "1.e", "1.d", "\x00", "1\xff"} {
		got, e := number.Read(s, 10, false)
		fails(t, fmt.Sprintf("Read of %q", s), got, e, api.ErrForm)
	}
	for _, c := range []struct {
		s    string
		base int
	}{{"2", 2}, {"12", 2}, {"1/2", 2}, {"g", 16}, {"8/7", 8}, {"a.", 16}, {"1a.", 16}, {"f.5", 16}, {"a.5", 16}, {"1.a", 16}, {"ae-1", 16}, {"1/a.", 16}} {
		got, e := number.Read(c.s, c.base, true)
		fails(t, fmt.Sprintf("Read of %q, base %d", c.s, c.base), got, e, api.ErrForm)
	}
}

func TestReadLimits(t *testing.T) {
	nines := strings.Repeat("9", api.MaxDigits)
	got, e := number.Read(nines, 10, false)
	is(t, "Read of 20000 digits", got, e, api.Form{Kind: api.FormInt, Text: nines})
	got, e = number.Read(nines[1:]+".", 10, false)
	is(t, "Read of 19999 digits and a point", got, e, api.Form{Kind: api.FormInt, Text: nines[1:]})
	got, e = number.Read("."+nines[1:], 10, false)
	is(t, "Read of 19999 places", got, e, num(t, "1s"))
	for _, c := range []struct {
		s    string
		base int
		want api.Errno
	}{
		{nines + "9", 10, api.ErrLarge}, {strings.Repeat("x", api.MaxDigits+1), 10, api.ErrLarge}, {"1/" + strings.Repeat("0", api.MaxDigits), 10, api.ErrLarge}, {nines + "9", 37, api.ErrArg}, {nines, 36, api.ErrLarge}, {strings.Repeat("x", api.MaxDigits), 10, api.ErrForm}, {nines[:15000] + "/" + nines[:3], 36, api.ErrLarge}, {nines[:15000] + "/0", 36, api.ErrZero}, {nines[2:] + "e1", 10, api.ErrOver},
		{"1", 1, api.ErrArg}, {"1", 37, api.ErrArg}, {"1", 0, api.ErrArg}, {"1", -10, api.ErrArg}, {"", 1, api.ErrArg}, {"1/0", 37, api.ErrArg}, {"1.5", 1, api.ErrArg}, {"1", math.MaxInt, api.ErrArg}, {"1", math.MinInt, api.ErrArg},
	} {
		got, e := number.Read(c.s, c.base, false)
		fails(t, "Read of "+c.s[:min(20, len(c.s))], got, e, c.want)
	}
}

func TestPrint(t *testing.T) {
	for _, c := range []struct {
		x      string
		base   int
		radix  bool
		double bool
		want   string
	}{
		{"-255", 16, false, false, "-FF"}, {"-255", 16, true, false, "#x-FF"}, {"1/2", 10, true, false, "#10r1/2"}, {"1/2", 10, false, false, "1/2"}, {"12", 10, true, false, "12."}, {"-12", 10, true, true, "-12."}, {"0", 10, true, false, "0."}, {"12", 10, false, false, "12"}, {"5", 3, true, false, "#3r12"}, {"5", 3, false, false, "12"}, {"5", 2, true, false, "#b101"}, {"-5/2", 2, true, false, "#b-101/10"}, {"9", 8, true, false, "#o11"}, {"1/9", 8, true, false, "#o1/11"}, {"1/17", 16, true, false, "#x1/11"}, {"35", 36, true, false, "#36rZ"}, {"0", 7, true, false, "#7r0"}, {"100", 36, false, false, "2S"}, {"-1/3", 3, true, false, "#3r-1/10"},
		{"1.5s", 16, true, false, "1.5"}, {"1.5s", 2, false, true, "1.5f0"}, {"1.5d", 10, false, false, "1.5d0"}, {"1.5d", 10, true, true, "1.5"}, {"1e7s", 10, false, false, "1.0e7"}, {"1e7s", 10, false, true, "1.0f7"}, {"1e-10d", 10, false, true, "1.0e-10"}, {"1e-10d", 10, false, false, "1.0d-10"}, {"-0.0s", 10, false, false, "-0.0"}, {"-0.0d", 10, false, false, "-0.0d0"},
		{"(1 2)", 10, false, false, "#C(1 2)"}, {"(1/2 -31)", 16, false, false, "#C(1/2 -1F)"}, {"(1/2 -31)", 16, true, false, "#C(#x1/2 #x-1F)"}, {"(1 2)", 10, true, false, "#C(1. 2.)"}, {"(1s -0.0s)", 10, false, false, "#C(1.0 -0.0)"}, {"(1d 2.5d)", 10, true, false, "#C(1.0d0 2.5d0)"}, {"(1s 2.5s)", 3, true, true, "#C(1.0f0 2.5f0)"}, {"(0 1)", 2, true, false, "#C(#b0 #b1)"},
	} {
		if s, e := number.Print(num(t, c.x), c.base, c.radix, c.double); s != c.want || e != api.OK {
			t.Errorf("Print of %s, base %d, %v, %v: %q, %v; expected %q", c.x, c.base, c.radix, c.double, s, e, c.want)
		}
	}
	for _, base := range []int{1, 0, -2, 37, math.MaxInt, math.MinInt} {
		for _, x := range []string{"1", "1/2", "1s", "1d", "(0 1)"} {
			if s, e := number.Print(num(t, x), base, true, false); s != "" || e != api.ErrArg {
				t.Errorf("Print of %s in the base %d: %q, %v", x, base, s, e)
			}
		}
	}
	long := ofBytes(api.MaxDigits)
	if s, e := number.Print(long, 10, false, false); s != long.Text || e != api.OK {
		t.Errorf("Print of 20000 bytes: %v", e)
	}
}

func TestReadOfPrint(t *testing.T) {
	for _, x := range reals(t, 11, 160) {
		for base := 2; base <= 36; base++ {
			for _, double := range []bool{false, true} {
				s, e := number.Print(x, base, false, double)
				if e != api.OK {
					t.Fatalf("Print of %v: %v", x, e)
				}
				got, e := number.Read(s, base, double)
				is(t, fmt.Sprintf("Read of Print %s, base %d", s, base), got, e, x)
			}
		}
	}
}
