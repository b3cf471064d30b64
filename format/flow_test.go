package format_test

import (
	"strings"
	"testing"

	"commonform/api"
)

func TestLayout(t *testing.T) {
	check(t,
		row{"a~%b~3%c~0%d", "", "a\nb\n\n\ncd", 0}, row{"a~|b~2|c", "", "a\fb\f\fc", 0}, row{"~~ ~3~ ~0~", "", "~ ~~~ ", 0}, row{"~v%~#~", "2 1", "\n\n~", 0}, row{"~1001%", "", "", api.ErrRange}, row{"~'x%", "", "", api.ErrType},
		row{"~&a~&b~&~&c", "", "a\nb\nc", 0}, row{"a~0&b~2&c~%~2&d~%~3&", "", "ab\n\nc\n\nd\n\n\n", 0}, row{"~3&a", "", "\n\na", 0}, row{"~A~&b", `"a
"`, "a\nb", 0}, row{"~A~&b", `"a
c"`, "a\nc\nb", 0},
		row{"a~\n   b~:\n c~@\n \t d~:@\n e~\n", "", "ab c\nd\n e", 0}, row{"a~\n\t \n b", "", "a\n b", 0}, row{"a~@:\n b", "", "a\n b", 0},
		row{"ab~6Tc|~6Td", "", "ab    c| d", 0}, row{"~5Ta~3Tb", "", "     a b", 0}, row{"abc~1,4Td", "", "abc  d", 0}, row{"abcde~1,4Td", "", "abcde    d", 0}, row{"abc~3,0Td~0,0Te", "", "abcde", 0}, row{"abc~5,0Td", "", "abc  d", 0}, row{"~Ta~Tb", "", " a b", 0}, row{"abc~3,3Td", "", "abc   d", 0}, row{"abc~2,3Td", "", "abc  d", 0}, row{"~0Tx", "", " x", 0}, row{"~0,0Tx", "", "x", 0}, row{"a~%b~4Tc", "", "a\nb   c", 0}, row{"é~3Tc", "", "é c", 0},
		row{"ab~2,4@Tc", "", "ab  c", 0}, row{"ab~@Tc", "", "ab c", 0}, row{"abc~,4@Td", "", "abc d", 0}, row{"abcd~0,4@Te", "", "abcde", 0}, row{"abcd~1,4@Te", "", "abcd    e", 0}, row{"a~3,0@Tb", "", "a   b", 0}, row{"~1001T", "", "", api.ErrRange}, row{"~1,1001@T", "", "", api.ErrRange},
	)
}

func TestJump(t *testing.T) {
	check(t,
		row{"~*~A", "1 2", "2", 0}, row{"~2*~A", "1 2 3", "3", 0}, row{"~0*~A", "1", "1", 0}, row{"~3*", "1 2 3", "", 0}, row{"~4*", "1 2 3", "", api.ErrNone}, row{"~*", "", "", api.ErrNone}, row{"~A~:*~A", "4", "44", 0}, row{"~A~A~2:*~A", "1 2", "121", 0}, row{"~A~0:*~A", "1 2", "12", 0}, row{":~:*", "1", "", api.ErrNone}, row{"~A~2:*", "1", "", api.ErrNone}, row{"~2@*~A", "1 2 3", "3", 0}, row{"~A~@*~A", "1 2", "11", 0}, row{"~3@*", "1 2 3", "", 0}, row{"~4@*", "1 2 3", "", api.ErrNone}, row{"~v*~A", "1 2 3", "3", 0}, row{"~v@*~A", "1 2 3", "2", 0}, row{"~v:*~A", "1 2 3", "1", 0}, row{"~#@*", "1 2", "", 0}, row{"~1001*", "", "", api.ErrRange}, row{"~-1:*", "1", "", api.ErrRange},
	)
}

func TestRecur(t *testing.T) {
	check(t,
		row{"~? ~A", `"<~A>" (1) 2`, "<1> 2", 0}, row{"~@? ~A", `"<~A>" 1 2`, "<1> 2", 0}, row{"~?", `"a" nil`, "a", 0}, row{"~?|~A", `"~A~^~A" (1) 2`, "1|2", 0}, row{"~@?|~A", `"~A~^~A~0^x" 1 2 3`, "12|3", 0}, row{"~@?", `"~:*~A" 1`, "~:*~A", 0}, row{"~@?~A", `"~*" 1 2`, "2", 0}, row{"~A~@?~A", `1 "~@*~A" 2`, "11~@*~A", 0}, row{"~?", `"~:*~A" (1)`, "", api.ErrNone}, row{"~(~?~)", `"~A" ("AB")`, "ab", 0}, row{"~%~?", `"~&a" nil`, "\na", 0}, row{"~?~?", `"~A" (1 2) "~A" (3)`, "13", 0}, row{"~{~?~}", `("~A" (1) "~A~A" (2 3))`, "123", 0},
		row{"~?", "", "", api.ErrNone}, row{"~?", "1", "", api.ErrType}, row{"~?", `"~"`, "", api.ErrNone}, row{"~?", `"~" 1`, "", api.ErrType}, row{"~?", `"~" (1 . 2)`, "", api.ErrType}, row{"~?", `"~" (1)`, "", api.ErrForm}, row{"~@?", `"~"`, "", api.ErrForm}, row{"~@?", "", "", api.ErrNone}, row{"~@?", "a", "", api.ErrType}, row{"~@?", `"~:^" 1`, "", api.ErrForm}, row{"~:{~@?~}", `(("~:^" 1))`, "", api.ErrForm}, row{"~?", `"~A" nil`, "", api.ErrNone}, row{"~?", `"a" #(1)`, "", api.ErrType}, row{"~?", `"a" #1=(1 . #1#)`, "", api.ErrType},
	)
	made(t, "~?", []api.Form{str(strings.Repeat("a", 4000)), null()}, strings.Repeat("a", 4000), api.OK)
	made(t, "~?", []api.Form{str(strings.Repeat("a", 4001)), null()}, "", api.ErrForm)
	for depth, want := range map[int]api.Errno{19: api.OK, 20: api.OK, 21: api.ErrFull} {
		control, args := "x", null()
		for range depth - 1 {
			control, args = "~?", list(str(control), args)
		}
		out := "x"
		if want != api.OK {
			out = ""
		}
		made(t, "~?", []api.Form{str(control), args}, out, want)
		same := append(many(depth-1, str("~@?")), str("x"))
		made(t, "~@?", same, out, want)
	}
	// one ~? behind another one does not stand in it, and both arguments are taken ahead of ErrFull
	made(t, strings.Repeat("~@?", 30), many(30, str("a")), strings.Repeat("a", 30), api.OK)
	control, args := "~?", list(str("x"))
	for range 20 {
		control, args = "~?", list(str(control), args)
	}
	made(t, control, []api.Form{args.Kids[0], args.Kids[1]}, "", api.ErrNone)
}

func TestCase(t *testing.T) {
	check(t,
		row{"~(ABC dE~)|~:(ABC dE~)|~@(ABC dE~)|~:@(ABC dE~)|", "", "abc de|Abc De|Abc de|ABC DE|", 0}, row{"~@(~A~A~)", `"ab" "CD"`, "Abcd", 0}, row{"~(A~:@(b~)C~)", "", "abc", 0}, row{"~:@(a~(B~)c~)", "", "ABC", 0}, row{"ab~(C~5TD~)", "", "abc  d", 0}, row{"ab~(~&C~&~)~&d", "", "ab\nc\nd", 0}, row{"~(~)", "", "", 0}, row{"~(A~^B~)C", "", "a", 0}, row{"~{~(A~A~^B~)~}|", `("X" "Y")`, "axbay|", 0}, row{"~(~R~)~:(~R~)", "1 21", "oneTwenty-One", 0},
	)
}

func TestChoose(t *testing.T) {
	check(t,
		row{"~[a~;b~;c~]", "0", "a", 0}, row{"~[a~;b~;c~]", "2", "c", 0}, row{"~[a~;b~;c~]", "3", "", 0}, row{"~[a~;b~;c~]", "-1", "", 0}, row{"~[a~;b~:;c~]", "-1", "c", 0}, row{"~[a~;b~:;c~]", "2", "c", 0}, row{"~[a~;b~:;c~]", "1", "b", 0}, row{"~[a~;b~:;c~]", "1000000000000000000000000000", "c", 0}, row{"~[a~]", "-99999999999999999999999", "", 0}, row{"~[~:;c~]", "0", "", 0}, row{"~[~]", "0", "", 0},
		row{"~1[a~;b~]~A", "7", "b7", 0}, row{"~9[a~:;b~]~A", "7", "b7", 0}, row{"~#[none~;one~;two~:;many~]", "", "none", 0}, row{"~#[none~;one~;two~:;many~]", "1 2", "two", 0}, row{"~#[none~;one~;two~:;many~]", "1 2 3", "many", 0}, row{"~v[a~;b~]~A", "1 2", "b2", 0}, row{"~v[a~;b~]~A", "nil 1 2", "b2", 0}, row{"~-1[a~]", "", "", api.ErrRange}, row{"~1001[a~]", "", "", api.ErrRange}, row{"~v[a~]", "1001", "", api.ErrRange}, row{"~'a[a~]", "1", "", api.ErrType}, row{"~[a~]", "1.0", "", api.ErrType}, row{"~[a~]", "nil", "", api.ErrType}, row{"~[a~]", "", "", api.ErrNone}, row{"~[a~;~A~]", "1", "", api.ErrNone}, row{"~[~A~;b~]", "1", "b", 0},
		row{"~:[no~;yes~]", "nil", "no", 0}, row{"~:[no~;yes~]", "0", "yes", 0}, row{"~:[no~;yes~]", "|nil|", "yes", 0}, row{"~:[no~;yes~A~]", "t 1", "yes1", 0}, row{"~:[no~;yes~]", "", "", api.ErrNone}, row{"~:[~;~]", "()", "", 0},
		row{"~@[<~A>~]~A", "nil 2", "2", 0}, row{"~@[<~A>~]", "1", "<1>", 0}, row{"~@[x~]~A", "1", "x1", 0}, row{"~@[x~]", "", "", api.ErrNone}, row{"~@[~A~A~]", "1", "", api.ErrNone}, row{"~@[~:*~A~]", "1", "", api.ErrNone},
		row{"~[a~^b~]c", "0", "a", 0}, row{"~[a~^b~]c", "0 1", "abc", 0}, row{"~{~[a~;b~^c~;d~]~}|", "(0 1 1)", "abcb|", 0}, row{"~:[a~0^b~;~]c", "nil", "a", 0},
	)
	for digits, want := range map[int]api.Errno{20000: api.OK, 20001: api.ErrType} {
		made(t, "~[a~]", []api.Form{long(digits)}, "", want)
	}
}

func TestIterate(t *testing.T) {
	check(t,
		row{"~{~A~^, ~}", "(1 2 3)", "1, 2, 3", 0}, row{"~{~A~}", "nil", "", 0}, row{"~{~A=~A;~}", "(a 1 b 2)", "a=1;b=2;", 0}, row{"~{~A=~A;~}", "(a 1 b)", "", api.ErrNone}, row{"~{~A~}~A", "(1) 2", "12", 0}, row{"~2{~A~}", "(1 2 3)", "12", 0}, row{"~0{~A~}", "(1 2 3)", "", 0}, row{"~v{~A~}|~v{~A~}", "1 (1 2) nil (3 4)", "1|34", 0}, row{"~{~A~:*~A~}", "(1 2)", "1122", 0}, row{"~{~*~A|~}", "(1 2 3 4)", "2|4|", 0}, row{"~{~*~A~}", "(1 2 3)", "", api.ErrNone}, row{"~3{a~}", "(1)", "aaa", 0},
		row{"~{x~:}", "nil", "x", 0}, row{"~0{x~:}", "nil", "", 0}, row{"~{~A~:}", "nil", "", api.ErrNone}, row{"~{x~^y~:}", "nil", "x", 0}, row{"~{~A~:}", "(1 2)", "12", 0}, row{"~1{~A~:}", "(1 2)", "1", 0},
		row{"~:{~A-~A ~}", "((1 2) (3 4))", "1-2 3-4 ", 0}, row{"~:{~A~^-~A ~}", "((1) (3 4))", "13-4 ", 0}, row{"~:{~A~:^; ~}", "((1) (2) (3))", "1; 2; 3", 0}, row{"~:{~A~}", "((1 2) (3))", "13", 0}, row{"~1:{~A~}", "((1 2) (3))", "1", 0}, row{"~:{~A~}", "nil", "", 0}, row{"~:{x~:}", "nil", "x", 0}, row{"~:{x~:^y~:}", "nil", "x", 0}, row{"~:{~A~:}", "nil", "", api.ErrNone}, row{"~:{x~}", "(nil nil)", "xx", 0}, row{"~:{x~}", "(nil 1)", "", api.ErrType}, row{"~:{x~}", "((1 . 2))", "", api.ErrType}, row{"~:{~A~}", "((1) nil)", "", api.ErrNone}, row{"~1:{x~}", "(nil 1)", "x", 0}, row{"~:{~A~0:^b~}|", "((1) (2))", "1|", 0}, row{"~:{~A~1:^b~}|", "((1) (2))", "1b2b|", 0}, row{"~:{~A~0^b~}|", "((1) (2))", "12|", 0}, row{"~:{~A~[~:^~;b~]~}|", "((1 1) (2 0) (3 1))", "1b23b|", 0},
		row{"~@{~A~}", "1 2", "12", 0}, row{"~@{~A~}", "", "", 0}, row{"~A~@{~A~^,~}", "1 2 3", "12,3", 0}, row{"~1@{~A~}~A", "1 2", "12", 0}, row{"~@{~A~0^~}|~A", "1 2", "1|2", 0}, row{"~@{~A~:*~0^~}|~A", "1 2", "1|1", 0}, row{"~A~@{~:*~}", "1 2", "", api.ErrNone}, row{"~A~1@{~@*~A~}", "1 2", "12", 0}, row{"~@{x~:}", "", "x", 0}, row{"~:@{~A~}", "(1) (2)", "12", 0}, row{"~1:@{~A~}~A", "(1) (2)", "1(2)", 0}, row{"~:@{~A~:^,~}", "(1) (2)", "1,2", 0}, row{"~:@{~A~}", "(1) 2", "", api.ErrType}, row{"~@:{x~:}", "", "x", 0},
		row{"~{~}", `"~A;" (1 2)`, "1;2;", 0}, row{"~{~}|~A", `"~A" nil 1`, "|1", 0}, row{"~:{~}", `"~A" ((1 2) (3))`, "13", 0}, row{"~@{~}", `"~A;" 1 2`, "1;2;", 0}, row{"~1@{~}~A", `"~A;" 1 2`, "1;2", 0}, row{"~1{~}", `"~A" (1 2)`, "1", 0}, row{"~{~:}", `"x" nil`, "x", 0}, row{"~{~}", `"~A~0^b" (1 2)`, "1", 0}, row{"~:{~}", `"~A~^b" ((1) (2 3))`, "12b", 0}, row{"~{~}", `"~A~^, " (1 2)`, "1, 2", 0}, row{"~v{~}", `1 "~A" (1 2)`, "1", 0}, row{"~@{~}", `"~@{~}" "~A" 1 2`, "12", 0},
		row{"~{~}", "", "", api.ErrNone}, row{"~{~}", "1", "", api.ErrType}, row{"~{~}", `"~"`, "", api.ErrNone}, row{"~{~}", `"~" 1`, "", api.ErrType}, row{"~{~}", `"~" nil`, "", api.ErrForm}, row{"~@{~}", `"~"`, "", api.ErrForm}, row{"~:{~}", `"~:^" ((1))`, "", api.ErrForm}, row{"~{a~}", `"x" (1)`, "", api.ErrType},
		row{"~{a~}", "1", "", api.ErrType}, row{"~{a~}", "(1 . 2)", "", api.ErrType}, row{"~{a~}", "#(1)", "", api.ErrType}, row{"~{a~}", "#1=(#1#)", "", api.ErrType}, row{"~{a~}", "", "", api.ErrNone}, row{"~1001{a~}", "nil", "", api.ErrRange}, row{"~-1{a~}", "nil", "", api.ErrRange}, row{"~'a{a~}", "nil", "", api.ErrType},
		row{"~{~{~A~^,~}~^;~}", "((1 2) (3))", "1,2;3", 0}, row{"~{~A~{~A~}~}", "(1 (2) 3 nil)", "123", 0}, row{"~:{~:{~A~:^,~}~:^;~}", "((((1) (2))) (((3))))", "1,2;3", 0}, row{"~{~A~&~}", "(1 2)", "1\n2\n", 0},
	)
	made(t, "~{~}", []api.Form{str(strings.Repeat("a", 4001)), null()}, "", api.ErrForm)
	made(t, "~{~:}", []api.Form{str(strings.Repeat("a", 4000)), null()}, strings.Repeat("a", 4000), api.OK)
}

func TestJustify(t *testing.T) {
	check(t,
		row{"~10<a~;bc~;d~>", "", "a   bc   d", 0}, row{"~6<a~>|~6@<a~>|~6:<a~>|~6:@<a~>|", "", "     a|a     |     a|   a  |", 0}, row{"~8:<a~;b~>|~8@<a~;b~>|~9:@<a~;b~>|", "", "   a   b|a   b   |   a  b  |", 0}, row{"~<abc~>|~<a~;b~>", "", "abc|ab", 0}, row{"~,,2<a~;b~>", "", "a  b", 0}, row{"~1,4<abc~>", "", "  abc", 0}, row{"~5,,,'*<~A~;~A~>", "1 2", "1***2", 0}, row{"~5<~>|", "", "     |", 0}, row{"~v<~A~>", "3 x", "  x", 0},
		row{"~10<a~;b~^~;c~>", "", "         a", 0}, row{"~10<~A~;~A~^x~;c~>", "1 2", "         1", 0}, row{"~10<~A~;~A~^x~;c~>", "1 2 3", "1   2x   c", 0}, row{"~10<~^a~>|", "", "|", 0}, row{"~10<a~0^~;b~>|", "", "|", 0}, row{"~10<a~;~(b~^c~)~;d~>|", "", "         a|", 0}, row{"~{~5<~A~^~;b~>~A~}", "(1 2)", "1   b2", 0}, row{"~{~5<a~;~A~^~;b~>|~}", "(1 2)", "a 1 b|    a|", 0},
		row{"ab~<~4Tc~;~4Td~>", "", "ab  c  d", 0}, row{"ab~6<~&c~;d~>", "", "ab\nc   d", 0}, row{"ab~<x~%~;~&c~>", "", "abx\n\nc", 0}, row{"~10<a~5<b~>~;c~>", "", "a    b   c", 0}, row{"~(~6<A~;B~>~)", "", "a    b", 0}, row{"~<~3T~:@(a~)~>", "", "   A", 0}, row{"abc~5<~>~9T|", "", "abc      |", 0},
		row{"~,0<a~>", "", "", api.ErrRange}, row{"~1001<a~>", "", "", api.ErrRange}, row{"~,,1001<a~>", "", "", api.ErrRange}, row{"~,,,1<a~>", "", "", api.ErrType}, row{"~<~A~>", "", "", api.ErrNone},
	)
	for parts, want := range map[int]api.Errno{100: api.OK, 101: api.ErrFull, 102: api.ErrFull} {
		out := ""
		if want == api.OK {
			out = strings.Repeat("a", parts)
		}
		made(t, "~<"+strings.Repeat("a~;", parts-1)+"a~>", nil, out, want)
	}
	made(t, "~<"+strings.Repeat("a~;", 100)+"~^a~>", nil, strings.Repeat("a", 100), api.OK)
	for size, want := range map[int]api.Errno{4000: api.OK, 4001: api.ErrFull} {
		out := ""
		if want == api.OK {
			out = strings.Repeat("a", size)
		}
		made(t, "~<~A~>", []api.Form{str(strings.Repeat("a", size))}, out, want)
		made(t, "~<~A~^~>b", []api.Form{str(strings.Repeat("a", size))}, "b", api.OK)
	}
}

func TestEscape(t *testing.T) {
	check(t,
		row{"a~^b", "", "a", 0}, row{"a~^b", "1", "ab", 0}, row{"a~0^b", "1", "a", 0}, row{"a~1^b", "", "ab", 0}, row{"a~,^b", "", "a", 0}, row{"a~,1^b", "", "ab", 0}, row{"a~1,1^b", "", "a", 0}, row{"a~-5,-5^b", "", "a", 0}, row{"a~1,2^b", "", "ab", 0}, row{"a~1,2,3^b", "", "a", 0}, row{"a~1,1,1^b", "", "a", 0}, row{"a~2,1,3^b", "", "ab", 0}, row{"a~1,3,2^b", "", "ab", 0}, row{"a~-9,,5^b", "", "a", 0}, row{"a~,,^b", "", "a", 0}, row{"a~v^b", "0", "a", 0}, row{"a~v^b", "nil", "a", 0}, row{"a~v^b", "1", "ab", 0}, row{"a~#^b", "", "a", 0}, row{"a~#^b", "1", "ab", 0}, row{"a~#,2^b", "1 2", "a", 0}, row{"a~999999999,999999999^b", "", "a", 0},
		row{"a~'x^b", "", "", api.ErrType}, row{"a~'x,'x^b", "", "", api.ErrType}, row{"a~v^b", `#\a`, "", api.ErrType}, row{"a~v^b", `"a"`, "", api.ErrType}, row{"a~v^b", "", "", api.ErrNone}, row{"a~@^b", "", "a", 0},
	)
}

// The output has at most 20000 bytes, and at most 10000 directives are performed.
func TestFull(t *testing.T) {
	big := str(strings.Repeat("a", 10000))
	made(t, "~A~A", []api.Form{big, big}, strings.Repeat("a", 20000), api.OK)
	for _, control := range []string{"~A~Ab", "~A~A~%", "~A~A~1A", "~A~A~(b~)", "~A~(~Ab~)", "b~(~A~A~)", "~A~A~<b~>", "~A~A~1T", "~A~A~1<~>"} {
		made(t, control, []api.Form{big, big, num(1)}, "", api.ErrFull)
	}
	made(t, "~A~A~(~)~<~>~A~0%", []api.Form{big, big, str("")}, strings.Repeat("a", 20000), api.OK)
	made(t, "~A", []api.Form{str(strings.Repeat("a", 20001))}, "", api.ErrFull)
	made(t, "~A~A~A~A", []api.Form{big, big, num(1)}, "", api.ErrFull)
	made(t, "~1000%", nil, strings.Repeat("\n", 1000), api.OK)
	// 5 lists of 1000 elements: ~{ and, for each element, one time and one ~A
	lists := many(4, list(many(1000, num(1))...))
	short := list(many(997, num(1))...)
	made(t, strings.Repeat("~{~A~}", 5)+"~%", append(lists, short), strings.Repeat("1", 4997)+"\n", api.OK)
	made(t, strings.Repeat("~{~A~}", 5)+"~%b", append(lists, short), strings.Repeat("1", 4997)+"\nb", api.OK)
	made(t, strings.Repeat("~{~A~}", 5)+"~%~~", append(lists, short), "", api.ErrFull)
	made(t, strings.Repeat("~{~A~}", 5)+"~%~A", append(lists, short), "", api.ErrFull)
	// with a part of ~<, and ~<, for each element
	made(t, strings.Repeat("~{~<~A~;~>~}", 2), many(2, list(many(999, num(1))...)), strings.Repeat("1", 1998), api.OK)
	made(t, strings.Repeat("~{~<~A~;~>~}", 2), many(2, list(many(1000, num(1))...)), "", api.ErrFull)
	one := list(num(1))
	made(t, "~{a~}", []api.Form{one}, "", api.ErrFull)
	made(t, "~{~}", []api.Form{str(""), one}, "", api.ErrFull)
	made(t, "~{~1{~}~}", []api.Form{one}, "", api.ErrType)
	made(t, "~{~:@(~)~}", []api.Form{one}, "", api.ErrFull)
	made(t, "~{~[~:;~]~:*~}", []api.Form{one}, "", api.ErrFull)
	made(t, "~:{a~}", []api.Form{list(many(1000, null())...)}, strings.Repeat("a", 1000), api.OK)
}
