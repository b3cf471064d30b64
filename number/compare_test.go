package number_test

import (
	"testing"

	"commonform/api"
	"commonform/number"
)

func TestEqualsAndEql(t *testing.T) {
	for _, c := range []struct {
		x, y        string
		equals, eql bool
	}{
		{"1", "1", true, true}, {"1", "2", false, false}, {"1", "1s", true, false}, {"1s", "1d", true, false}, {"1/2", "0.5s", true, false}, {"1/3", "0.33333334s", false, false}, {"0.1s", "0.1d", false, false}, {"0s", "-0.0s", true, false}, {"-0.0s", "0", true, false}, {"-0.0d", "0s", true, false}, {"16777217", "16777216s", false, false}, {"9007199254740993", "9007199254740992d", false, false}, {"1e30", "1e30s", false, false}, {"1e40", "1s", false, false}, {"1e400", "1d", false, false},
		{"(1 2)", "(1 2)", true, true}, {"(1 2)", "(1 3)", false, false}, {"(1 2)", "(2 2)", false, false}, {"(1 2)", "(1s 2s)", true, false}, {"(1s 0s)", "1", true, false}, {"1", "(1s 0s)", true, false}, {"(1s -0.0s)", "1d", true, false}, {"(1s -0.0s)", "(1s 0s)", true, false}, {"(1 2)", "1", false, false}, {"1", "(1 2)", false, false},
	} {
		x, y := num(t, c.x), num(t, c.y)
		if is, e := number.Equals(x, y); is != c.equals || e != api.OK {
			t.Errorf("Equals of %s and %s: %v, %v", c.x, c.y, is, e)
		}
		if is, e := number.Eql(x, y); is != c.eql || e != api.OK {
			t.Errorf("Eql of %s and %s: %v, %v", c.x, c.y, is, e)
		}
	}
	// A list that is nil and one that is empty are the same.
	x := api.Form{Kind: api.FormInt, Text: "1", Kids: []api.Form{}}
	if is, e := number.Eql(x, num(t, "1")); !is || e != api.OK {
		t.Errorf("Eql of an empty list of kids: %v, %v", is, e)
	}
}

func TestEquivalence(t *testing.T) {
	l := samples(t, 3, 70)
	for _, x := range l {
		if is, e := number.Equals(x, x); !is || e != api.OK {
			t.Errorf("Equals of %v and itself: %v", x, e)
		}
		for _, y := range l {
			one, _ := number.Equals(x, y)
			other, _ := number.Equals(y, x)
			eql, _ := number.Eql(x, y)
			if one != other || eql && !one || eql != equal(x, y) {
				t.Errorf("Equals of %v and %v: %v, %v, Eql %v", x, y, one, other, eql)
			}
			for _, z := range l {
				two, _ := number.Equals(y, z)
				if both, _ := number.Equals(x, z); one && two && !both {
					t.Errorf("Equals of %v, %v, %v is not transitive", x, y, z)
				}
			}
		}
	}
}

func TestCmp(t *testing.T) {
	for _, c := range []struct {
		x, y string
		want int
	}{{"1/3", "0.33333334s", -1}, {"0.33333334s", "1/3", 1}, {"0s", "-0.0s", 0}, {"-0.0s", "0", 0}, {"1", "1s", 0}, {"16777217", "16777216s", 1}, {"0.1s", "0.1d", 1}, {"-1", "1/2", -1}, {"1e400", "1e308d", 1}, {"-1e400", "-1e308d", -1}, {"2", "10", -1}, {"-2", "-10", 1}, {"1e-400", "0d", 1}, {"7/5", "7/6", 1}} {
		if n, e := number.Cmp(num(t, c.x), num(t, c.y)); n != c.want || e != api.OK {
			t.Errorf("Cmp of %s and %s: %d, %v", c.x, c.y, n, e)
		}
	}
	for _, c := range [][2]string{{"1", "(0 1)"}, {"(0 1)", "1"}, {"(0 1)", "(0 1)"}, {"(1s 0s)", "1s"}} {
		if n, e := number.Cmp(num(t, c[0]), num(t, c[1])); n != 0 || e != api.ErrType {
			t.Errorf("Cmp of %s and %s: %d, %v", c[0], c[1], n, e)
		}
	}
	l := reals(t, 4, 120)
	for _, x := range l {
		for _, y := range l {
			n, e := number.Cmp(x, y)
			if n != valueOf(x).Cmp(valueOf(y)) || e != api.OK {
				t.Errorf("Cmp of %v and %v: %d, %v", x, y, n, e)
			}
			if is, _ := number.Equals(x, y); is != (n == 0) {
				t.Errorf("Cmp and Equals of %v and %v: %d, %v", x, y, n, is)
			}
		}
	}
}

func TestGreatest(t *testing.T) {
	for _, c := range []struct {
		l    []string
		want string
	}{
		{[]string{"1", "2s", "2"}, "2s"}, {[]string{"2", "2s", "1"}, "2"}, {[]string{"5"}, "5"}, {[]string{"-5", "-1/2", "-7"}, "-1/2"}, {[]string{"0s", "-0.0s", "0"}, "0s"}, {[]string{"-0.0s", "0s"}, "-0.0s"}, {[]string{"1/3", "0.33333334s", "1/3"}, "0.33333334s"}, {[]string{"1d", "3d", "2d"}, "3d"}, {[]string{"0.1d", "0.1s"}, "0.1s"},
		{nil, "!none"}, {[]string{"(0 1)"}, "!type"}, {[]string{"1", "(0 1)", "2"}, "!type"},
	} {
		got, e := number.Greatest(nums(t, c.l...))
		expect(t, "Greatest", got, e, c.want)
	}
	bad, long := api.Form{Kind: api.FormInt, Text: "01"}, ofBytes(api.MaxDigits+1)
	got, e := number.Greatest([]api.Form{num(t, "1"), bad, num(t, "(0 1)"), long})
	fails(t, "Greatest, the first error", got, e, api.ErrForm)
	got, e = number.Greatest([]api.Form{num(t, "1"), num(t, "(0 1)"), bad, long})
	fails(t, "Greatest, the first error", got, e, api.ErrType)
	got, e = number.Greatest([]api.Form{long, num(t, "(0 1)"), bad})
	fails(t, "Greatest, the first error", got, e, api.ErrLarge)
	got, e = number.Greatest([]api.Form{})
	fails(t, "Greatest of an empty list", got, e, api.ErrNone)
}
