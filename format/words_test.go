package format_test

import (
	"math"
	"math/big"
	"math/rand"

	"strings"
	"testing"

	"commonform/api"
	"commonform/format"
)

func TestCardinal(t *testing.T) {
	for n, want := range map[string]string{
		"0": "zero", "1": "one", "-1": "minus one", "10": "ten", "11": "eleven", "13": "thirteen", "19": "nineteen", "20": "twenty", "21": "twenty-one", "30": "thirty", "42": "forty-two", "55": "fifty-five", "68": "sixty-eight", "77": "seventy-seven", "84": "eighty-four", "99": "ninety-nine", "100": "one hundred", "101": "one hundred one", "112": "one hundred twelve", "342": "three hundred forty-two", "1000": "one thousand", "1001": "one thousand one", "12000": "twelve thousand", "1000000": "one million", "1000100": "one million one hundred", "-1000000000": "minus one billion", "1000000000000": "one trillion", "1000000000000000": "one quadrillion", "1000000000000000000": "one quintillion", "5000000000000000000001": "five sextillion one",
		"999999999999999999999999": "nine hundred ninety-nine sextillion nine hundred ninety-nine quintillion nine hundred ninety-nine quadrillion nine hundred ninety-nine trillion nine hundred ninety-nine billion nine hundred ninety-nine million nine hundred ninety-nine thousand nine hundred ninety-nine",
	} {
		if got, e := format.Cardinal(node(api.FormInt, n)); got != want || e != api.OK {
			t.Errorf("Cardinal(%s) = %s, %v", n, got, e)
		}
	}
}

func TestOrdinal(t *testing.T) {
	for n, want := range map[string]string{
		"0": "zeroth", "1": "first", "2": "second", "3": "third", "4": "fourth", "5": "fifth", "6": "sixth", "7": "seventh", "8": "eighth", "9": "ninth", "10": "tenth", "11": "eleventh", "12": "twelfth", "13": "thirteenth", "20": "twentieth", "21": "twenty-first", "30": "thirtieth", "45": "forty-fifth", "90": "ninetieth", "100": "one hundredth", "112": "one hundred twelfth", "1000": "one thousandth", "1000000": "one millionth", "-2": "minus second", "-40": "minus fortieth", "2000003": "two million third",
	} {
		if got, e := format.Ordinal(node(api.FormInt, n)); got != want || e != api.OK {
			t.Errorf("Ordinal(%s) = %s, %v", n, got, e)
		}
	}
}

// valueOf returns the number that words say.
func valueOf(words string) *big.Int {
	small := map[string]int64{}
	for i, w := range strings.Fields("zero one two three four five six seven eight nine ten eleven twelve thirteen fourteen fifteen sixteen seventeen eighteen nineteen") {
		small[w] = int64(i)
	}
	for i, w := range strings.Fields("twenty thirty forty fifty sixty seventy eighty ninety") {
		small[w] = int64(20 + 10*i)
	}
	great := map[string]*big.Int{}
	for i, w := range strings.Fields("thousand million billion trillion quadrillion quintillion sextillion") {
		great[w] = new(big.Int).Exp(big.NewInt(1000), big.NewInt(int64(i+1)), nil)
	}
	sum, group, sign := new(big.Int), int64(0), int64(1)
	for w := range strings.FieldsSeq(strings.ReplaceAll(words, "-", " ")) {
		switch {
		case w == "minus":
			sign = -1
		case w == "hundred":
			group *= 100
		case great[w] != nil:
			sum.Add(sum, new(big.Int).Mul(big.NewInt(group), great[w]))
			group = 0
		default:
			group += small[w]
		}
	}
	sum.Add(sum, big.NewInt(group))
	return sum.Mul(sum, big.NewInt(sign))
}

// P13.2: the words say the number, so that different numbers have different ones.
func TestWordsAndBack(t *testing.T) {
	r := rand.New(rand.NewSource(132))
	limit := new(big.Int).Exp(big.NewInt(10), big.NewInt(24), nil)
	for i := range 3000 {
		n := big.NewInt(int64(i) - 50)
		if i > 1500 {
			n.Rand(r, limit)
			n.Rsh(n, uint(r.Intn(80)))
			if r.Intn(2) == 0 {
				n.Neg(n)
			}
		}
		words, e := format.Cardinal(node(api.FormInt, n.String()))
		if e != api.OK || valueOf(words).Cmp(n) != 0 || strings.Contains(words, "  ") || strings.TrimSpace(words) != words {
			t.Fatalf("Cardinal(%s) = %q, %v", n, words, e)
		}
	}
}

func TestRoman(t *testing.T) {
	digits := func(n int, one, five, ten string, old bool) string {
		switch {
		case n == 4 && !old:
			return one + five
		case n == 9 && !old:
			return one + ten
		case n >= 5:
			return five + strings.Repeat(one, n-5)
		}
		return strings.Repeat(one, n)
	}
	for _, old := range []bool{false, true} {
		most := 3999
		if old {
			most = 4999
		}
		for n := 1; n <= most; n++ {
			want := strings.Repeat("M", n/1000) + digits(n/100%10, "C", "D", "M", old) + digits(n/10%10, "X", "L", "C", old) + digits(n%10, "I", "V", "X", old)
			if got, e := format.Roman(num(n), old); got != want || e != api.OK {
				t.Fatalf("Roman(%d, %v) = %s, %v; expected %s", n, old, got, e, want)
			}
		}
		for _, n := range []int{0, -1, most + 1, math.MaxInt} {
			if got, e := format.Roman(num(n), old); got != "" || e != api.ErrRange {
				t.Errorf("Roman(%d, %v) = %s, %v", n, old, got, e)
			}
		}
	}
}

func TestWordErrors(t *testing.T) {
	for i, c := range []struct {
		x                     api.Form
		cardinal, roman, romn api.Errno
	}{
		{api.Form{}, api.ErrType, api.ErrType, api.ErrType}, {node(api.FormRatio, "1/2"), api.ErrType, api.ErrType, api.ErrType}, {node(api.FormSingle, "3f800000"), api.ErrType, api.ErrType, api.ErrType}, {str("1"), api.ErrType, api.ErrType, api.ErrType}, {node(api.FormInt, "01"), api.ErrType, api.ErrType, api.ErrType}, {node(api.FormInt, "+1"), api.ErrType, api.ErrType, api.ErrType}, {node(api.FormInt, ""), api.ErrType, api.ErrType, api.ErrType}, {node(api.FormInt, "1", num(1)), api.ErrType, api.ErrType, api.ErrType}, {api.Form{Kind: api.FormInt, Text: "1", Home: "P"}, api.ErrType, api.ErrType, api.ErrType}, {long(20001), api.ErrType, api.ErrType, api.ErrType},
		{long(20000), api.ErrRange, api.ErrRange, api.ErrRange}, {long(25), api.ErrRange, api.ErrRange, api.ErrRange}, {node(api.FormInt, "1"+strings.Repeat("0", 24)), api.ErrRange, api.ErrRange, api.ErrRange}, {node(api.FormInt, "-1"+strings.Repeat("0", 24)), api.ErrRange, api.ErrRange, api.ErrRange}, {node(api.FormInt, "-"+strings.Repeat("9", 24)), api.OK, api.ErrRange, api.ErrRange}, {num(4500), api.OK, api.ErrRange, api.OK},
	} {
		a, e := format.Cardinal(c.x)
		b, d := format.Ordinal(c.x)
		m, f := format.Roman(c.x, false)
		n, g := format.Roman(c.x, true)
		if e != c.cardinal || d != c.cardinal || f != c.roman || g != c.romn || (a == "") != (e != api.OK) || (b == "") != (d != api.OK) || (m == "") != (f != api.OK) || (n == "") != (g != api.OK) {
			t.Errorf("%d: %v, %v, %v, %v", i, e, d, f, g)
		}
	}
}

func TestGrouped(t *testing.T) {
	for i, c := range []struct {
		digits, comma string
		interval      int
		want          string
		e             api.Errno
	}{
		{"1234567", ",", 3, "1,234,567", 0}, {"-1234567", ",", 3, "-1,234,567", 0}, {"+123", ",", 3, "+123", 0}, {"-123456", ".", 3, "-123.456", 0}, {"", ",", 1, "", 0}, {"-", ",", 1, "-", 0}, {"abc", "--", 1, "a--b--c", 0}, {"abc", "", 1, "abc", 0}, {"--12", ",", 1, "--,1,2", 0}, {"12", ",", 1000, "12", 0}, {"12", ",", 0, "", api.ErrArg}, {"12", ",", 1001, "", api.ErrArg}, {"12", ",", -1, "", api.ErrArg}, {"", "", math.MinInt, "", api.ErrArg}, {"éa", ",", 2, "\xc3,\xa9a", 0},
	} {
		if got, e := format.Grouped(c.digits, c.comma, c.interval); got != c.want || e != c.e {
			t.Errorf("%d: Grouped = %q, %v", i, got, e)
		}
	}
	for n := range 40 {
		for interval := 1; interval < 9; interval++ {
			digits := strings.Repeat("1234567890", 4)[:n]
			want := ""
			for k := range n {
				if k > 0 && k%interval == 0 {
					want = "," + want
				}
				want = string(digits[n-1-k]) + want
			}
			if got, _ := format.Grouped(digits, ",", interval); got != want {
				t.Errorf("Grouped(%s, %d) = %s", digits, interval, got)
			}
		}
	}
}

// justifiedOf is the definition: the gaps get their pads one by one, until the length is right.
func justifiedOf(texts []string, width, step, least int, pad string, front, back bool) string {
	gaps := make([]int, len(texts)+1)
	var open []int
	for i := range gaps {
		if i > 0 && i < len(texts) || i == 0 && front || i == len(texts) && back || i == 0 && len(texts) == 1 && !back {
			open = append(open, i)
			gaps[i] = least
		}
	}
	n := len(strings.Join(texts, "")) + least*len(open)
	total := width
	for total < n {
		total += step
	}
	for i := range total - n {
		gaps[open[i%len(open)]]++
	}
	text := strings.Repeat(pad, gaps[0])
	for i, s := range texts {
		text += s + strings.Repeat(pad, gaps[i+1])
	}
	return text
}

// P13.4: Justified against its definition.
func TestJustified(t *testing.T) {
	r := rand.New(rand.NewSource(134))
	for range 5000 {
		var texts []string
		for range 1 + r.Intn(5) {
			texts = append(texts, strings.Repeat(string(rune('a'+r.Intn(26))), r.Intn(6)))
		}
		width, step, least, front, back := r.Intn(30), 1+r.Intn(6), r.Intn(4), r.Intn(2) == 0, r.Intn(2) == 0
		want := justifiedOf(texts, width, step, least, ".", front, back)
		if got, e := format.Justified(texts, width, step, least, ".", front, back); got != want || e != api.OK {
			t.Fatalf("Justified(%q, %d, %d, %d, %v, %v) = %q, %v; expected %q", texts, width, step, least, front, back, got, e, want)
		}
	}
}

func TestJustifiedErrors(t *testing.T) {
	one, most := []string{"a"}, make([]string, 100)
	big := strings.Repeat("a", 4000)
	for i, c := range []struct {
		texts              []string
		width, step, least int
		pad                string
		want               api.Errno
	}{
		{one, 0, 1, 0, " ", api.OK}, {most, 1000, 1000, 1000, "\xff", api.OK}, {[]string{big, big}, 0, 1, 0, "x", api.OK}, {make([]string, 101), -1, 0, 0, "", api.ErrSize}, {nil, -1, 0, 0, "", api.ErrSize}, {[]string{"", big + "a"}, -1, 0, 0, "", api.ErrSize},
		{one, -1, 1, 0, "", api.ErrArg}, {one, -1, 1, 0, "é", api.ErrArg}, {one, -1, 1, 0, "ab", api.ErrArg}, {one, 0, 0, -1, " ", api.ErrArg}, {one, 0, 1001, 0, " ", api.ErrArg}, {one, 0, math.MinInt, 0, " ", api.ErrArg}, {one, -1, 1, 0, " ", api.ErrRange}, {one, 1001, 1, 0, " ", api.ErrRange}, {one, 0, 1, -1, " ", api.ErrRange}, {one, 0, 1, 1001, " ", api.ErrRange}, {one, math.MaxInt, 1, math.MaxInt, " ", api.ErrRange},
	} {
		got, e := format.Justified(c.texts, c.width, c.step, c.least, c.pad, true, true)
		if e != c.want || e != api.OK && got != "" {
			t.Errorf("%d: Justified: %v; expected %v", i, e, c.want)
		}
	}
}

func TestCased(t *testing.T) {
	for i, c := range []struct{ s, small, first, words, great string }{
		{"hello wORLD", "hello world", "Hello world", "Hello World", "HELLO WORLD"}, {"", "", "", "", ""}, {"12 abC", "12 abc", "12 Abc", "12 Abc", "12 ABC"}, {"1st 2nD a1b", "1st 2nd a1b", "1St 2nd a1b", "1St 2Nd A1b", "1ST 2ND A1B"}, {"it's x-Y_z", "it's x-y_z", "It's x-y_z", "It'S X-Y_Z", "IT'S X-Y_Z"}, {"éa ÉB", "éa Éb", "éA Éb", "éA ÉB", "éA ÉB"}, {"\n[AZ{az`@", "\n[az{az`@", "\n[Az{az`@", "\n[Az{Az`@", "\n[AZ{AZ`@"}, {"\xffA\xff", "\xffa\xff", "\xffA\xff", "\xffA\xff", "\xffA\xff"}, {"0A", "0a", "0A", "0A", "0A"},
	} {
		for k, want := range []string{c.small, c.first, c.words, c.great} {
			colon, at := k >= 2, k%2 == 1
			got, e := format.Cased(c.s, colon, at)
			again, _ := format.Cased(got, colon, at)
			if got != want || e != api.OK || again != got || len(got) != len(c.s) {
				t.Errorf("%d: Cased(%q, %v, %v) = %q, %v", i, c.s, colon, at, got, e)
			}
		}
	}
	for k := range 4 {
		if got, e := format.Cased(strings.Repeat("a", 20001), k >= 2, k%2 == 1); got != "" || e != api.ErrSize {
			t.Errorf("Cased of 20001 bytes: %v", e)
		}
		if got, e := format.Cased(strings.Repeat("a", 20000), k >= 2, k%2 == 1); len(got) != 20000 || e != api.OK {
			t.Errorf("Cased of 20000 bytes: %v", e)
		}
	}
}
