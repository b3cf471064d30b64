package format_test

import (
	"math/rand"
	"strings"
	"testing"

	"commonform/api"
	"commonform/format"
	"commonform/integer"
)

func TestExamples(t *testing.T) {
	check(t,
		row{"~D item~:P", "1", "1 item", 0}, row{"~D item~:P", "3", "3 items", 0}, row{"~,,'.,4:D", "1234567", "123.4567", 0}, row{"~R", "1045", "one thousand forty-five", 0}, row{"~:R", "21", "twenty-first", 0}, row{"~@R", "1994", "MCMXCIV", 0}, row{"~8,4R", "9", "  11", 0}, row{"~{~A~^, ~}", "(1 2 3)", "1, 2, 3", 0}, row{"~:[no~;yes~]", "nil", "no", 0}, row{"~10<a~;bc~;d~>", "", "a   bc   d", 0}, row{"~:(hello wORLD~)", "", "Hello World", 0}, row{"~6,2F", "22/7", "  3.14", 0}, row{"~3,2F", "1/2", ".50", 0}, row{"~$", "5", "5.00", 0}, row{"~[zero~;one~:;many~]", "7", "many", 0},
	)
}

func TestAAndS(t *testing.T) {
	check(t,
		row{"~A ~S", `"a\"b" "a\"b"`, `a"b "a\"b"`, 0}, row{"~A ~S", `#\a #\a`, `a #\a`, 0}, row{"~A ~S", `foo |foo|`, `foo |foo|`, 0}, row{"~A ~S", `:a :a`, `a :a`, 0}, row{"~A", `(1 "a" (#\b . 2))`, `(1 a (b . 2))`, 0}, row{"~S", `(1 "a" #*01)`, `(1 "a" #*01)`, 0}, row{"~A", "#1=(a . #1#)", "#0=(a . #0#)", 0}, row{"~S", "'x", "'x", 0},
		row{"~A ~:A ~S ~:S ~:A", "nil nil nil nil (nil)", "nil () nil () (nil)", 0}, row{"~5:A|~5:@A|", "nil nil", "()   |   ()|", 0},
		row{"~5A|~5@A|", "1 2", "1    |    2|", 0}, row{"~1A|~0A|~A|", `"abc" "abc" "abc"`, "abc|abc|abc|", 0}, row{"~4,3A|", `"ab"`, "ab   |", 0}, row{"~4,3A|", `"abcd"`, "abcd|", 0}, row{"~5,3A|", `"ab"`, "ab   |", 0}, row{"~6,3@A|", `"ab"`, "      ab|", 0}, row{"~,,2A|~,,2@A|", `"ab" "ab"`, "ab  |  ab|", 0}, row{"~5,2,2A|", `"ab"`, "ab    |", 0}, row{"~4,2,2A|", `"ab"`, "ab  |", 0}, row{"~,5,2A|", `"ab"`, "ab  |", 0}, row{"~5,,,'*A|~5,,,'*@S|", `1 "a"`, `1****|**"a"|`, 0}, row{"~9A|", `"éé"`, "éé     |", 0},
		row{"~5,0A", `"abcdef"`, "", api.ErrRange}, row{"~5,1001A", `"abcdef"`, "", api.ErrRange}, row{"~5,1,1001A", `"a"`, "", api.ErrRange}, row{"~A", "", "", api.ErrNone}, row{"~S~S", "1", "", api.ErrNone},
	)
	for _, x := range []api.Form{long(20001), node(api.FormSingle, "7f800000"), list(node(api.FormRatio, "1000000000000000000/2000000000000000000")), str(strings.Repeat("a", 100001))} {
		made(t, "~A", []api.Form{x}, "", api.ErrForm)
	}
}

func TestIntegers(t *testing.T) {
	check(t,
		row{"~D ~B ~O ~X", "255 5 64 -255", "255 101 100 -FF", 0}, row{"~5D|~5,'0D|~2D", "42 -42 12345", "   42|00-42|12345", 0}, row{"~@D ~@D ~@D", "5 -5 0", "+5 -5 +0", 0}, row{"~:D ~:@D ~:D ~:D", "1234567 1234 -123456 123", "1,234,567 +1,234 -123,456 123", 0}, row{"~12,'*,'.,2:D", "-1234567", "*-1.23.45.67", 0}, row{"~,,,4:B ~,,' ,4:X", "255 65535", "1111,1111 FFFF", 0}, row{"~,,'.D", "1234567", "1234567", 0},
		row{"~D ~D ~D", `1/2 "a" nil`, "1/2 a nil", 0}, row{"~6D|~6,'*@:D|", `1.5 (1 "a")`, "   1.5|*(1 a)|", 0}, row{"~B ~:X", "15/2 nil", "15/2 nil", 0}, row{"~2D", "foo", "foo", 0}, row{"~D|~1D|", `"" ""`, "| |", 0},
		row{"~,,,0D", "1", "", api.ErrRange}, row{"~,,,1001D", "1", "", api.ErrRange}, row{"~,1D", "1", "", api.ErrType}, row{"~,,1D", "1", "", api.ErrType}, row{"~D", "", "", api.ErrNone},
		row{"~8,4R|~,R|~10R|~vR|~36R|~2,10,'0R|~16,,,,2:@R", "9 -5 6 nil 7 35 2 4660", "  11|-5|6|7|Z|0000000010|+12,34", 0}, row{"~8R", "1/2", "1/2", 0}, row{"~37R", "1", "", api.ErrRange}, row{"~1R", "1", "", api.ErrRange}, row{"~37,'xR", "1", "", api.ErrRange}, row{"~2,1001R", "1", "", api.ErrRange},
		row{"~R|~:R|~@R|~:@R", "4 4 4 4", "four|fourth|IV|IIII", 0}, row{"~R", "1.0", "", api.ErrType}, row{"~:R", "nil", "", api.ErrType}, row{"~@R", `"a"`, "", api.ErrType}, row{"~R", "1000000000000000000000000", "", api.ErrRange}, row{"~:R", "-1000000000000000000000000", "", api.ErrRange}, row{"~@R", "0", "", api.ErrRange}, row{"~@R", "4000", "", api.ErrRange}, row{"~:@R", "5000", "", api.ErrRange},
	)
	for _, control := range []string{"~D", "~B", "~R", "~@R", "~7R", "~:D"} {
		made(t, control, []api.Form{long(20001)}, "", api.ErrType)
	}
	made(t, "~D", []api.Form{long(20000)}, strings.Repeat("7", 20000), api.OK)
	made(t, "~:D", []api.Form{long(20000)}, "", api.ErrFull)
	made(t, "~B", []api.Form{long(20000)}, "", api.ErrFull)
	made(t, "~D", []api.Form{node(api.FormRatio, "1000000000000000000/2000000000000000000")}, "", api.ErrForm)
}

// P13.2: what is written in a radix is read back.
func TestThereAndBack(t *testing.T) {
	r := rand.New(rand.NewSource(131))
	for range 500 {
		n := integer.New(r.Int63() - r.Int63())
		if r.Intn(2) == 0 {
			n = n.Mul(n).Mul(integer.New(r.Int63n(1000)))
		}
		decimal, _ := n.Text(10)
		radix := 2 + r.Intn(35)
		for _, control := range []string{"~D", "~20D", "~@D", "~:D", "~,,'.,2:@D"} {
			text, e := format.Format(control, []api.Form{node(api.FormInt, decimal)})
			text = strings.NewReplacer(" ", "", ",", "", ".", "", "+", "").Replace(text)
			if text != decimal || e != api.OK {
				t.Errorf("%s of %s = %s, %v", control, decimal, text, e)
			}
		}
		text, e := format.Format("~vR", []api.Form{num(radix), node(api.FormInt, decimal)})
		back, d := integer.Parse(text, radix)
		if e != api.OK || d != api.OK || back.Cmp(n) != 0 {
			t.Errorf("~%dR of %s = %s, %v", radix, decimal, text, e)
		}
	}
}

func TestCAndP(t *testing.T) {
	check(t,
		row{"~C~C", `#\a #\Space`, "a ", 0}, row{"~@C ~@C ~:@C ~@:C", `#\a #\Space #\Newline #\b`, `#\a #\Space #\Newline #\b`, 0}, row{"~:C ~:C ~:C ~:C ~:C ~:C ~:C ~:C ~:C", `#\Space #\Newline #\Tab #\Page #\Rubout #\Backspace #\Return #\Null #\a`, "Space Newline Tab Page Rubout Backspace Return Null a", 0}, row{"~C~:C", `#\é #\é`, "éé", 0},
		row{"~C", "1", "", api.ErrType}, row{"~C", `"a"`, "", api.ErrType}, row{"~C", "a", "", api.ErrType}, row{"~C", "", "", api.ErrNone},
		row{"~P~P~P~P", "1 2 1.0 nil", "sss", 0}, row{"~@P~@P", "1 0", "yies", 0}, row{"~D tr~:@P/~D win~:P", "7 1", "7 tries/1 win", 0}, row{"~A~:P~A~:@P", `1 "x"`, "1xies", 0}, row{"~:P", "1", "", api.ErrNone}, row{"~P", "", "", api.ErrNone}, row{"~A~:P~A", "2 3", "2s3", 0},
	)
}

func TestF(t *testing.T) {
	check(t,
		row{"~F ~F ~F ~F ~F", "1/2 3 -5/2 0 1/3", "0.5 3.0 -2.5 0.0 0.33333334", 0}, row{"~F ~F ~F ~F", "1.5 -0.0 0.1d0 1.0d100", "1.5 0.0 0.1 1" + strings.Repeat("0", 100) + ".0", 0}, row{"~F ~F", "1.0e-5 1/1000000", "0.00001 0.000001", 0}, row{"~F", "12345678901234567890", "12345679000000000000.0", 0}, row{"~F", "1/10000000000000000000000000000000000000000000000000000000000000", "0.0", 0}, row{"~F", "-1/10000000000000000000000000000000000000000000000000000000000000", "0.0", 0}, row{"~F", "0.1", "0.1", 0}, row{"~F", "123.456d0", "123.456", 0},
		row{"~,2F ~,2F ~,0F ~,0F ~,3F", "22/7 -22/7 5/2 7/2 2", "3.14 -3.14 2. 4. 2.000", 0}, row{"~,2F ~,2F ~,1F", "1/1000 -1/1000 -0.0", "0.00 0.00 0.0", 0}, row{"~,100F", "1/2", "0.5" + strings.Repeat("0", 99), 0},
		row{"~,,2F ~,,-2F ~,1,1F", "1/2 5 1/4", "50.0 0.05 2.5", 0}, row{"~,,100F", "1/1" + strings.Repeat("0", 99), "10.0", 0}, row{"~,,1F", "1.0d-1", "1.0", 0}, row{"~,,1F", "0.1", "1.0", 0},
		row{"~@F ~@F ~@F ~,2@F", "3 -3 0 1/1000", "+3.0 -3.0 +0.0 +0.00", 0}, row{"~8F|~8@F|~8,2,,,'*F", "1.5 1.5 1.5", "     1.5|    +1.5|****1.50", 0},
		row{"~2F ~2F ~3F ~3@F ~1F", "1/2 -1/2 -1/2 1/2 1/2", ".5 -.5 -.5 +.5 .5", 0}, row{"~1,0F ~1,0F", "0 5", "0. 5.", 0}, row{"~3F", "10", "10.0", 0}, row{"~3F ~4F", "1/2 1/2", "0.5  0.5", 0}, row{"~2F", "0.0", ".0", 0}, row{"~4,2F", "-0.5", "-.50", 0},
		row{"~2,1,,'*F ~3,1,,'*F ~4,1,,'*F ~5,1,,'*F", "100 100 100 100", "** *** **** 100.0", 0}, row{"~1,,,'xF ~2,,,'xF", "1/2 1/2", "x .5", 0}, row{"~0,,,'xF", "1/2", "0.5", 0}, row{"~,,,'xF", "100", "100.0", 0}, row{"~2,1,,'*,'-F~4,1,,'*,'-F", "1 1", "**-1.0", 0},
		row{"~F", "#C(1 2)", "", api.ErrType}, row{"~F", "nil", "", api.ErrType}, row{"~F", `"1"`, "", api.ErrType}, row{"~F", "", "", api.ErrNone}, row{"~,101F", "1", "", api.ErrRange}, row{"~,-1F", "1", "", api.ErrRange}, row{"~,,101F", "1", "", api.ErrRange}, row{"~,,-101F", "1", "", api.ErrRange}, row{"~,,,1F", "1", "", api.ErrType}, row{"~,,,,1F", "1", "", api.ErrType}, row{"~,'aF", "1", "", api.ErrType}, row{"~1001F", "1", "", api.ErrRange},
		row{"~F", "1000000000000000000000000000000000000000", "", api.ErrRange}, row{"~,,100F", "1.0", "", api.ErrRange}, row{"~,,100F", "1.0d300", "", api.ErrRange}, row{"~,2F", "1000000000000000000000000000000000000000", "1000000000000000000000000000000000000000.00", 0},
	)
	for _, control := range []string{"~F", "~,2F", "~$"} {
		made(t, control, []api.Form{node(api.FormSingle, "7f800000")}, "", api.ErrType)
		made(t, control, []api.Form{long(20001)}, "", api.ErrType)
	}
	made(t, "~F", []api.Form{long(20000)}, "", api.ErrRange)
	made(t, "~,0F", []api.Form{long(20000)}, "", api.ErrFull)
	made(t, "~,0F", []api.Form{long(19999)}, strings.Repeat("7", 19999)+".", api.OK)
}

func TestMoney(t *testing.T) {
	check(t,
		row{"~$ ~$ ~$ ~$", "5 -5 1/3 0.125", "5.00 -5.00 0.33 0.12", 0}, row{"~3$ ~0$ ~0$", "1/3 5/2 7/2", "0.333 2. 4.", 0}, row{"~1,3$ ~1,0$ ~,4$", "1/2 1/2 -12", "000.5 0.5 -0012.00", 0}, row{"~@$ ~@$ ~@$", "5 -5 0", "+5.00 -5.00 +0.00", 0}, row{"~,,8$|~,,8@$|~,,8:$|~,,8:@$|~,,8:$", "5 5 5 5 -5", "    5.00|   +5.00|    5.00|+   5.00|-   5.00", 0}, row{"~,3,9,'*$|~,3,9,'*:@$", "-5 5", "**-005.00|+**005.00", 0}, row{"~,,3$", "100", "100.00", 0}, row{"~$ ~@$", "-1/1000 -1/1000", "0.00 +0.00", 0},
		row{"~$", "#C(1 2)", "", api.ErrType}, row{"~$", "a", "", api.ErrType}, row{"~101$", "1", "", api.ErrRange}, row{"~,101$", "1", "", api.ErrRange}, row{"~-1$", "1", "", api.ErrRange}, row{"~,,1001$", "1", "", api.ErrRange}, row{"~,,,1$", "1", "", api.ErrType}, row{"~$", "", "", api.ErrNone},
		row{"~100$", "1/2", "0.5" + strings.Repeat("0", 99), 0}, row{"~,100$", "1", strings.Repeat("0", 99) + "1.00", 0},
	)
}
