package float_test

import (
	"fmt"
	"math"
	"math/big"
	"math/rand"
	"strconv"
	"strings"
	"testing"

	"commonform/api"
	"commonform/float"
)

func width(f float.Format) int {
	if f == float.Single {
		return 32
	}
	return 64
}

// shortestOf returns the digits and the place of the point by the library.
func shortestOf(f float.Format, x uint64) (string, int) {
	v := math.Float64frombits(x)
	if f == float.Single {
		v = float64(math.Float32frombits(uint32(x)))
	}
	mantissa, exponent, _ := strings.Cut(strconv.FormatFloat(math.Abs(v), 'e', -1, width(f)), "e")
	p, _ := strconv.Atoi(exponent)
	return strings.Replace(mantissa, ".", "", 1), p + 1
}

func TestShortest(t *testing.T) {
	for _, c := range []struct {
		f      float.Format
		x      uint64
		digits string
		point  int
	}{
		{float.Single, 0x3dcccccd, "1", 0}, {float.Single, 0xbdcccccd, "1", 0}, {float.Single, 0, "0", 0}, {float.Single, 1 << 31, "0", 0}, {float.Single, 0x3f800000, "1", 1}, {float.Single, 1, "1", -44}, {float.Single, 2, "3", -44}, {float.Single, 3, "4", -44}, {float.Single, 0x7f7fffff, "34028235", 39}, {float.Single, 0x4b189680, "1", 8}, {float.Single, 0x00800000, "11754944", -37}, {float.Single, 0x42c80000, "1", 3},
		{float.Double, 1, "5", -323}, {float.Double, 0x7fefffffffffffff, "17976931348623157", 309}, {float.Double, 0x3fb999999999999a, "1", 0}, {float.Double, 0x44b52d02c7e14af6, "1", 24}, {float.Double, 0x44b52d02c7e14af5, "9999999999999997", 23}, {float.Double, 0x3fd3333333333334, "30000000000000004", 0}, {float.Double, 1 << 63, "0", 0},
	} {
		digits, point, e := float.Shortest(c.f, c.x)
		if digits != c.digits || point != c.point || e != api.OK {
			t.Errorf("Shortest of %x = %q, %d, %v; expected %q, %d", c.x, digits, point, e, c.digits, c.point)
		}
	}
	for _, f := range formats {
		l := floats(f, 16, 800)
		for x := range uint64(120) {
			l = append(l, x)
		}
		// At a power of two the next less float is nearer than the next greater one.
		one := infinity(f) &^ (infinity(f) << 1)
		for x := uint64(0); x < infinity(f); x += one * uint64(width(f)/8-1) {
			l = append(l, x, x+1)
		}
		for _, x := range l {
			checkShortest(t, f, x)
		}
	}
}

// checkShortest holds the digits against the promise: they are read as the float, no fewer ones are, and no other ones as few are nearer.
func checkShortest(t *testing.T, f float.Format, x uint64) {
	t.Helper()
	x &^= signBit(f)
	if x == 0 {
		return
	}
	digits, point, e := float.Shortest(f, x)
	n := len(digits)
	if e != api.OK || n == 0 || digits[0] == '0' || digits[n-1] == '0' {
		t.Fatalf("Shortest of %x = %q, %d, %v", x, digits, point, e)
	}
	value := exactly(f, x)
	here := decimalValue(t, digits, point)
	if bits, _ := nearestBits(f, here); bits != x {
		t.Errorf("Shortest of %x: %q, %d is not read as it", x, digits, point)
	}
	distance := new(big.Rat).Sub(here, value)
	distance.Abs(distance)
	for length := max(1, n-1); length <= n; length++ {
		for _, other := range around(value, length) {
			bits, e := nearestBits(f, other)
			if e != api.OK || bits != x || other.Cmp(here) == 0 {
				continue
			}
			far := new(big.Rat).Sub(other, value)
			if length < n {
				t.Errorf("Shortest of %x: %q, but %v is read as it", x, digits, other)
			} else if c := far.Abs(far).Cmp(distance); c < 0 || c == 0 && (digits[n-1]-'0')%2 == 1 {
				t.Errorf("Shortest of %x: %q, but %v is nearer", x, digits, other)
			}
		}
	}
	if n > 1 || f == float.Double {
		if want, p := shortestOf(f, x); len(want) != n || p != point {
			t.Errorf("Shortest of %x = %q, %d; the library has %q, %d", x, digits, point, want, p)
		}
	}
}

// decimalValue returns 0.digits times 10^point.
func decimalValue(t *testing.T, digits string, point int) *big.Rat {
	t.Helper()
	return rat(t, "0."+digits+"e"+strconv.Itoa(point))
}

// around returns the numbers with so many decimal digits next to a value.
func around(value *big.Rat, length int) []*big.Rat {
	unit := big.NewRat(1, 1)
	ten := big.NewRat(10, 1)
	limit := new(big.Rat).SetInt(new(big.Int).Exp(big.NewInt(10), big.NewInt(int64(length)), nil))
	for new(big.Rat).Quo(value, unit).Cmp(limit) >= 0 {
		unit.Mul(unit, ten)
	}
	for new(big.Rat).Mul(new(big.Rat).Quo(value, unit), ten).Cmp(limit) < 0 {
		unit.Quo(unit, ten)
	}
	q := new(big.Rat).Quo(value, unit)
	down := new(big.Int).Quo(q.Num(), q.Denom())
	var l []*big.Rat
	for step := int64(-1); step <= 2; step++ {
		n := new(big.Rat).SetInt(new(big.Int).Add(down, big.NewInt(step)))
		l = append(l, n.Mul(n, unit))
	}
	return l
}

func TestPlaces(t *testing.T) {
	for _, c := range []struct {
		x    string
		n    int
		want string
	}{
		{"1/8", 2, "0.12"}, {"3/8", 2, "0.38"}, {"-1/8", 2, "-0.12"}, {"-3/8", 2, "-0.38"}, {"-1/1000", 2, "0.00"}, {"1/1000", 2, "0.00"}, {"5/2", 0, "2."}, {"7/2", 0, "4."}, {"-5/2", 0, "-2."}, {"1/2", 0, "0."}, {"-1/2", 0, "0."}, {"3/2", 0, "2."}, {"-1/2", 1, "-0.5"}, {"999/1000", 2, "1.00"}, {"-999/1000", 2, "-1.00"}, {"0", 0, "0."}, {"0", 3, "0.000"}, {"123456/100", 1, "1234.6"}, {"1/3", 5, "0.33333"}, {"2/3", 5, "0.66667"}, {"1e30", 2, "1000000000000000000000000000000.00"}, {"995/1000", 2, "1.00"}, {"985/1000", 2, "0.98"}, {"-1/200", 2, "0.00"}, {"-3/200", 2, "-0.02"}, {"12", 1, "12.0"}, {"1/1000", 3, "0.001"}, {"10", 0, "10."},
	} {
		if s, e := float.Places(of(rat(t, c.x)), c.n); s != c.want || e != api.OK {
			t.Errorf("Places of %s and %d: %q, %v", c.x, c.n, s, e)
		}
	}
	for _, n := range []int{-1, 401, math.MinInt, math.MaxInt} {
		if s, e := float.Places(of(rat(t, "1/3")), n); s != "" || e != api.ErrArg {
			t.Errorf("Places with %d: %q, %v", n, s, e)
		}
	}
	if s, e := float.Places(of(rat(t, "1/3")), 400); s != "0."+strings.Repeat("3", 400) || e != api.OK {
		t.Errorf("400 places: %q, %v", s, e)
	}
	r := rand.New(rand.NewSource(17))
	for range 500 {
		z := big.NewRat(r.Int63n(1<<uint(r.Intn(40)+1))-1<<20, r.Int63n(1<<uint(r.Intn(12)+1))+1)
		n := r.Intn(12)
		s, e := float.Places(of(z), n)
		checkPlaces(t, z, n, s, e)
	}
}

// checkPlaces holds the text against the promise: it is at most half a unit away, and of two such ones even.
func checkPlaces(t *testing.T, z *big.Rat, n int, s string, e api.Errno) {
	t.Helper()
	ahead, behind, some := strings.Cut(strings.TrimPrefix(s, "-"), ".")
	if e != api.OK || !some || len(behind) != n || ahead == "" || len(ahead) > 1 && ahead[0] == '0' {
		t.Fatalf("Places of %v and %d: %q, %v", z, n, s, e)
	}
	text := rat(t, strings.TrimSuffix(s, "."))
	if text.Sign() == 0 && s[0] == '-' || text.Sign()*z.Sign() < 0 {
		t.Errorf("Places of %v and %d: %q", z, n, s)
	}
	unit := new(big.Rat).SetFrac(big.NewInt(1), new(big.Int).Exp(big.NewInt(10), big.NewInt(int64(n)), nil))
	units := new(big.Rat).Quo(text, unit)
	if !units.IsInt() {
		t.Errorf("Places of %v and %d: %q is no multiple", z, n, s)
	}
	away := new(big.Rat).Sub(text, z)
	c := away.Abs(away).Cmp(unit.Mul(unit, big.NewRat(1, 2)))
	if c > 0 || c == 0 && units.Num().Bit(0) == 1 {
		t.Errorf("Places of %v and %d: %q is too far away", z, n, s)
	}
}

func TestRead(t *testing.T) {
	for s, want := range map[string]uint64{
		"-.5e1": 0xc0a00000, "16777217": 0x4b800000, "16777217.0000001": 0x4b800001, "-0": 1 << 31, "+0": 0, "0": 0, "0e9999999999": 0, "-0e9999999999": 1 << 31, "0e-9999999999": 0, "-0.000e5": 1 << 31, "1.e2": 0x42c80000, "1.": 0x3f800000, ".5": 0x3f000000, "+.5E+1": 0x40a00000, "1E0": 0x3f800000, "1e-0": 0x3f800000, "1e+00": 0x3f800000, "00012.500": 0x41480000, "1e-9999999999999999999999": 0, "-1e-9999999999999999999999": 1 << 31, "1e-46": 0, "-1e-46": 1 << 31, "7.1e-46": 1, "7.0e-46": 0, "1.4e-45": 1, "3.4028235e38": 0x7f7fffff, "340282356779733661637539395458142568447": 0x7f7fffff, "0.1": 0x3dcccccd, "100000000000000000000e-20": 0x3f800000, "0." + strings.Repeat("0", 500) + "1e501": 0x3f800000, "1" + strings.Repeat("0", 600) + "e-600": 0x3f800000, strings.Repeat("0", 19999) + "1": 0x3f800000, "1" + strings.Repeat("0", 400) + "." + strings.Repeat("0", 19000) + "e-400": 0x3f800000, "." + strings.Repeat("0", 19989) + "1e19990": 0x3f800000,
	} {
		x, e := float.Read(float.Single, s)
		equal(t, "Read of "+s[:min(len(s), 50)], x, e, want, api.OK)
	}
	for s, want := range map[string]api.Errno{
		"1e39": api.ErrOver, "-1e39": api.ErrOver, "340282356779733661637539395458142568448": api.ErrOver, "1e999999999999999999999": api.ErrOver, "-.1e400": api.ErrOver,
		".": api.ErrForm, "": api.ErrForm, "+": api.ErrForm, "-": api.ErrForm, "-.": api.ErrForm, "1e": api.ErrForm, "1e+": api.ErrForm, "1e-": api.ErrForm, "e5": api.ErrForm, ".e5": api.ErrForm, "1d0": api.ErrForm, "1f0": api.ErrForm, "1..2": api.ErrForm, "1.2.3": api.ErrForm, "--1": api.ErrForm, "+-1": api.ErrForm, "1e1.5": api.ErrForm, "1e1e1": api.ErrForm, " 1": api.ErrForm, "1 ": api.ErrForm, "1_0": api.ErrForm, "0x10": api.ErrForm, "inf": api.ErrForm, "nan": api.ErrForm, "1/2": api.ErrForm, "1e5x": api.ErrForm, "1ee5": api.ErrForm, "1e--5": api.ErrForm, "x1": api.ErrForm, "1e5.": api.ErrForm, "１": api.ErrForm, "1.-5": api.ErrForm,
		strings.Repeat("1", api.MaxDigits+1): api.ErrLarge, strings.Repeat("x", api.MaxDigits+1): api.ErrLarge, strings.Repeat("0", api.MaxDigits) + "1": api.ErrLarge, strings.Repeat("x", api.MaxDigits): api.ErrForm, strings.Repeat("1", api.MaxDigits): api.ErrOver,
	} {
		for _, f := range formats {
			if s == "1e39" || s == "-1e39" || strings.HasPrefix(s, "34028") {
				f = float.Single
			}
			x, e := float.Read(f, s)
			equal(t, fmt.Sprintf("Read of %q", s[:min(len(s), 50)]), x, e, 0, want)
		}
	}
}

func TestReadOfMany(t *testing.T) {
	r := rand.New(rand.NewSource(18))
	for range 4000 {
		s := strconv.FormatInt(r.Int63n(1<<uint(r.Intn(62)+1)), 10)
		if at := r.Intn(len(s) + 1); r.Intn(2) == 0 {
			s = s[:at] + "." + s[at:]
		}
		if r.Intn(2) == 0 {
			s += "e" + strconv.Itoa(r.Intn(700)-350)
		}
		if r.Intn(2) == 0 {
			s = "-" + s
		}
		for _, f := range formats {
			checkRead(t, f, s)
		}
	}
	// The middles between neighbours, and texts that are a bit more or less, far behind.
	for _, f := range formats {
		for _, x := range floats(f, 19, 150) {
			x &^= signBit(f)
			if x+1 >= infinity(f) {
				continue
			}
			middle := new(big.Rat).Add(exactly(f, x), exactly(f, x+1))
			s := middle.Mul(middle, big.NewRat(1, 2)).FloatString(1100)
			checkRead(t, f, s)
			checkRead(t, f, s+"1")
			checkRead(t, f, "-"+s+strings.Repeat("0", 500)+"1")
		}
	}
}

// checkRead holds Read against the library, and against itself with more zeros at the end of the fraction.
func checkRead(t *testing.T, f float.Format, s string) {
	t.Helper()
	got, e := float.Read(f, s)
	v, err := strconv.ParseFloat(s, width(f))
	want := math.Float64bits(v)
	if f == float.Single {
		want = uint64(math.Float32bits(float32(v)))
	}
	if err != nil {
		equal(t, "Read of "+s[:min(len(s), 60)], got, e, 0, api.ErrOver)
		return
	}
	equal(t, "Read of "+s[:min(len(s), 60)], got, e, want, api.OK)
	if at := strings.IndexByte(s, '.'); at >= 0 {
		digits, power, some := strings.Cut(s, "e")
		longer := digits + "000"
		if some {
			longer += "e" + power
		}
		again, e := float.Read(f, longer)
		equal(t, "Read with more zeros", again, e, want, api.OK)
	}
}

func TestPrint(t *testing.T) {
	for _, c := range []struct {
		f     float.Format
		x     uint64
		usual float.Format
		want  string
	}{
		{float.Single, 0x3dcccccd, float.Single, "0.1"}, {float.Single, 0x3dcccccd, float.Double, "0.1f0"}, {float.Single, 0x4b189680, float.Single, "1.0e7"}, {float.Single, 0x4b189680, float.Double, "1.0f7"}, {float.Single, 1, float.Single, "1.0e-45"}, {float.Single, 1, float.Double, "1.0f-45"}, {float.Single, 0, float.Single, "0.0"}, {float.Single, 1 << 31, float.Single, "-0.0"}, {float.Single, 0, float.Double, "0.0f0"}, {float.Single, 1 << 31, float.Double, "-0.0f0"}, {float.Single, 0x3f800000, float.Single, "1.0"}, {float.Single, 0x4b18967f, float.Single, "9999999.0"}, {float.Single, 0xc2f6e979, float.Single, "-123.456"}, {float.Single, 0x3a83126f, float.Single, "0.001"}, {float.Single, 0x3a83126e, float.Single, "9.999999e-4"}, {float.Single, 0x7f7fffff, float.Single, "3.4028235e38"}, {float.Single, 0xff7fffff, float.Double, "-3.4028235f38"}, {float.Single, 0x42c80000, float.Single, "100.0"}, {float.Single, 0x447a0000, float.Double, "1000.0f0"}, {float.Single, 0x3c23d70a, float.Single, "0.01"}, {float.Single, 0xcb189680, float.Single, "-1.0e7"}, {float.Single, 0x4b189681, float.Single, "1.0000001e7"},
		{float.Double, 0x3fb999999999999a, float.Double, "0.1"}, {float.Double, 0x3fb999999999999a, float.Single, "0.1d0"}, {float.Double, 0x416312d000000000, float.Double, "1.0e7"}, {float.Double, 0x416312d000000000, float.Single, "1.0d7"}, {float.Double, 0x416312cfffffffff, float.Double, "9999999.999999998"}, {float.Double, 0x3f50624dd2f1a9fc, float.Double, "0.001"}, {float.Double, 0x3f50624dd2f1a9fb, float.Double, "9.999999999999998e-4"}, {float.Double, 1, float.Single, "5.0d-324"}, {float.Double, 0x7fefffffffffffff, float.Double, "1.7976931348623157e308"}, {float.Double, 1 << 63, float.Single, "-0.0d0"}, {float.Double, 0x3ff8000000000000, float.Single, "1.5d0"},
	} {
		if s, e := float.Print(c.f, c.x, c.usual); s != c.want || e != api.OK {
			t.Errorf("Print of %x = %q, %v; expected %q", c.x, s, e, c.want)
		}
	}
}

func TestReadOfPrint(t *testing.T) {
	letters := map[float.Format]string{float.Single: "f", float.Double: "d"}
	for _, f := range formats {
		for _, x := range floats(f, 20, 600) {
			s, e := float.Print(f, x, f)
			if e != api.OK {
				t.Fatalf("Print of %x: %v", x, e)
			}
			got, e := float.Read(f, s)
			equal(t, "Read of Print "+s, got, e, x, api.OK)
			other, e := float.Print(f, x, 1-f)
			if !strings.Contains(other, letters[f]) || e != api.OK {
				t.Errorf("Print of %x: %q, %v", x, other, e)
			}
			got, e = float.Read(f, strings.Replace(other, letters[f], "e", 1))
			equal(t, "Read of Print "+other, got, e, x, api.OK)
			checkLayout(t, f, x, s)
		}
	}
}

// checkLayout holds a text with the letter e against the form that the chapter tells.
func checkLayout(t *testing.T, f float.Format, x uint64, s string) {
	t.Helper()
	digits, point, _ := float.Shortest(f, x)
	size := new(big.Rat).Abs(exactly(f, x))
	usual := size.Sign() == 0 || size.Cmp(big.NewRat(1, 1000)) >= 0 && size.Cmp(big.NewRat(10000000, 1)) < 0
	mantissa, power, some := strings.Cut(strings.TrimPrefix(s, "-"), "e")
	ahead, behind, cut := strings.Cut(mantissa, ".")
	ok := cut && ahead != "" && behind != "" && some != usual && strings.HasPrefix(s, "-") == (x&signBit(f) != 0)
	ok = ok && (ahead == "0" || ahead[0] != '0') && (behind == "0" || !strings.HasSuffix(behind, "0"))
	if some {
		ok = ok && power == strconv.Itoa(point-1) && len(ahead) == 1 && strings.TrimRight(ahead+behind, "0") == digits
	} else if size.Sign() != 0 {
		ok = ok && strings.Trim(ahead+behind, "0") == digits
	}
	if !ok {
		t.Errorf("Print of %x = %q, with the digits %q and %d", x, s, digits, point)
	}
}
