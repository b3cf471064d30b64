package reader_test

import (
	"strconv"
	"strings"
	"testing"

	"commonform/api"
	"commonform/forms"
	"commonform/reader"
	"commonform/token"
)

func TestForms(t *testing.T) {
	for _, c := range []struct {
		s, want  string
		from, to int
	}{
		// lists
		{"(a . b)", "(A . B)", 0, 7}, {"(a b)", "(A B)", 0, 5}, {" ()", "nil", 1, 3}, {"(a . (b . c))", "(A B . C)", 0, 13}, {"(a . ())", "(A)", 0, 8}, {"(a . (b))", "(A B)", 0, 9}, {"((a) b . #(c))", "((A) B . #[C])", 0, 14}, {"(a .b)", "(A .B)", 0, 6}, {"(a b. c)", "(A B. C)", 0, 8}, {"(a \\. b)", "(A . B)", 0, 8}, {"(a . b;x\n #|y|# )", "(A . B)", 0, 17}, {"(a . ;x\n #-small q b)", "(A . B)", 0, 21}, {"(a))", "(A)", 0, 3}, {"(a ;)\n b #|)|# )", "(A B)", 0, 16}, {"(;x\n)", "nil", 0, 5}, {"(a #-small b . c)", "(A . C)", 0, 17}, {"(#+small 1 #-small 2 3)", "(1 3)", 0, 23}, {"(#-small 1)", "nil", 0, 11}, {"(1 #-small 2)", "(1)", 0, 13}, {"( #-small a #|b|# ;c\n)", "nil", 0, 22}, {"(a .(b))", "(A B)", 0, 8}, {"(a .'b)", "(A COMMON-LISP:QUOTE B)", 0, 7},
		// what abbreviates a list
		{"'a", "(COMMON-LISP:QUOTE A)", 0, 2}, {"' a", "(COMMON-LISP:QUOTE A)", 0, 3}, {"#'a", "(COMMON-LISP:FUNCTION A)", 0, 3}, {"''a", "(COMMON-LISP:QUOTE (COMMON-LISP:QUOTE A))", 0, 3}, {"'#|x|# ;y\n a", "(COMMON-LISP:QUOTE A)", 0, 12}, {"'#-small a b", "(COMMON-LISP:QUOTE B)", 0, 12},
		{"`(a ,b ,@c)", "(READER:BACKQUOTE (A (READER:COMMA B) (READER:SPLICE C)))", 0, 11}, {"`,a", "(READER:BACKQUOTE (READER:COMMA A))", 0, 3}, {"`, @a", "(READER:BACKQUOTE (READER:COMMA @A))", 0, 5}, {"``(,,a)", "(READER:BACKQUOTE (READER:BACKQUOTE ((READER:COMMA (READER:COMMA A)))))", 0, 7}, {"`(a . ,b)", "(READER:BACKQUOTE (A READER:COMMA B))", 0, 9}, {"`#(,a)", "(READER:BACKQUOTE #[(READER:COMMA A)])", 0, 6}, {"`(,`,a)", "(READER:BACKQUOTE ((READER:COMMA (READER:BACKQUOTE (READER:COMMA A)))))", 0, 7},
		// strings and characters
		{`""`, `""`, 0, 2}, {`"a\"b\\c\d"`, `"a\"b\\cd"`, 0, 11}, {"\"a;b\n|#(\x01é\"", "\"a;b\\n|#(\\x01é\"", 0, 12}, {`#\a`, `\a`, 0, 3}, {`#\A`, `\A`, 0, 3}, {`#\space`, `\ `, 0, 7}, {`#\SpAcE`, `\ `, 0, 7}, {`#\(`, `\(`, 0, 3}, {`#\()`, `\(`, 0, 3}, {`#\ `, `\ `, 0, 3}, {`#\#`, `\#`, 0, 3}, {`#\\`, `\\`, 0, 3}, {`#\a'`, `\a`, 0, 3}, {"#\\\x01", "\\\x01", 0, 3}, {"#\\a\x01", "\\a", 0, 3}, {`#\é`, `\é`, 0, 4}, {`#\u00e9`, `\é`, 0, 7}, {`#\U1F600`, "\\\U0001F600", 0, 8}, {`#\U`, `\U`, 0, 3}, {`#\s|PAC|e`, `\ `, 0, 9}, {`#\a||`, `\a`, 0, 5}, {`#\Ta\b`, "\\\t", 0, 6}, {`(#\a #\b)`, `(\a \b)`, 0, 9}, {`#\.`, `\.`, 0, 3}, {"#\\\n", "\\\n", 0, 3},
		// vectors and bits
		{"#(1 2)", "#[1 2]", 0, 6}, {"#()", "#[]", 0, 3}, {"#3(1 2)", "#[1 2 2]", 0, 7}, {"#0()", "#[]", 0, 4}, {"#2(1 2)", "#[1 2]", 0, 7}, {"#003(a)", "#[A A A]", 0, 7}, {"#1(#1=a)", "#[1=A]", 0, 8}, {"#2(#1=a #1#)", "#[1=A 1#]", 0, 12}, {"#3(#1=a #1#)", "#[1=A 1# 1#]", 0, 12}, {"#3(#1=a b)", "#[1=A B B]", 0, 10}, {"#2(#-small #1=a b)", "#[B B]", 0, 18}, {"#2((a))", "#[(A) (A)]", 0, 7}, {"#(a ;x\n)", "#[A]", 0, 8},
		{"#*101", "#*101", 0, 5}, {"#*", "#*", 0, 2}, {"#* 1", "#*", 0, 2}, {"#5*10", "#*10000", 0, 5}, {"#0*", "#*", 0, 3}, {"#2*10", "#*10", 0, 5}, {"#*(", "#*", 0, 2}, {"#*#", "#*", 0, 2}, {"#*\x01", "#*", 0, 2},
		// symbols without a home, and those of other packages
		{"#:g", ":G", 0, 3}, {"#:", ":", 0, 2}, {"#: x", ":", 0, 2}, {"#:12", ":12", 0, 4}, {"#:..", ":..", 0, 4}, {"#:|a:b|", ":a:b", 0, 7}, {"#:a\\:b", ":A:B", 0, 6}, {"q::x", "Q:X", 0, 4}, {"q:x", "Q:X", 0, 3}, {":k", "KEYWORD:K", 0, 2}, {":||", "KEYWORD:", 0, 3}, {"|1|", "1", 0, 3}, {"\\1", "1", 0, 2}, {"1\\+", "1+", 0, 3}, {"||", "", 0, 2}, {"nil", "NIL", 0, 3}, {"+", "+", 0, 1}, {"|.|", ".", 0, 3}, {"a#b", "A#B", 0, 3},
		// numbers
		{"12", "12", 0, 2}, {"-6/4", "-3/2", 0, 4}, {"+5.", "5", 0, 3}, {"1.5", "$3fc00000", 0, 3}, {"1d0", "$3ff0000000000000", 0, 3}, {"1e0", "$3f800000", 0, 3}, {"4/2", "2", 0, 3}, {"#x-ff", "-255", 0, 5}, {"#XfF", "255", 0, 4}, {"#b101/10", "5/2", 0, 8}, {"#o17", "15", 0, 4}, {"#3r102", "11", 0, 6}, {"#36RzZ", "1295", 0, 6}, {"#b10.", "10", 0, 5}, {"#002r11", "3", 0, 7},
		{"#c(1 2)", "#C[1 2]", 0, 7}, {"#C(1 0)", "1", 0, 7}, {"#c(1.5 1)", "#C[$3fc00000 $3f800000]", 0, 9}, {"#c (1 2)", "#C[1 2]", 0, 8}, {"#c(1 ;x\n 2)", "#C[1 2]", 0, 11}, {"#c(1 #-small a 2)", "#C[1 2]", 0, 17}, {"#c(1 . (2))", "#C[1 2]", 0, 11},
		// labels
		{"#1=(a . #1#)", "1=(A . 1#)", 0, 12}, {"#007=a", "7=A", 0, 6}, {"(#1=a #2=(b #1#) #2#)", "(1=A 2=(B 1#) 2#)", 0, 21}, {"#0= a", "0=A", 0, 5}, {"#1=#-small b c", "1=C", 0, 14}, {"(#-small #1=a #1=b)", "(1=B)", 0, 19}, {"(#1=a #+small #1#)", "(1=A 1#)", 0, 18}, {"(a . #1=(b . #1#))", "(A . 1=(B . 1#))", 0, 18}, {"#999='#999#", "999=(COMMON-LISP:QUOTE 999#)", 0, 11},
		// arrays
		{"#2a((1 2) (3 4))", "#A<2 2>[1 2 3 4]", 0, 16}, {"#0a x", "#A<>[X]", 0, 5}, {"#0A(1)", "#A<>[(1)]", 0, 6}, {"#1a(1 2)", "#[1 2]", 0, 8}, {"#2a\"\"", "#A<0 0>[]", 0, 5}, {"#2a(\"ab\" #*10)", "#A<2 2>[\\a \\b 1 0]", 0, 14}, {"#2a(#(a) ((b)))", "#A<2 1>[A (B)]", 0, 15}, {"#3a(() ())", "#A<2 0 0>[]", 0, 10}, {"#1=#1a(#1# #2=b #2#)", "1=#[1# 2=B 2#]", 0, 20}, {"#7a(((((((1)))))))", "#A<1 1 1 1 1 1 1>[1]", 0, 18}, {"#1a#3(x)", "#[X X X]", 0, 8},
		// comments and features
		{"#|a #|b|# c|# d ;e", "D", 14, 15}, {";a\n;b\n c;d", "C", 7, 8}, {"#||#a", "A", 4, 5}, {"#|||#a", "A", 5, 6}, {"#|#||#|#a", "A", 8, 9}, {"#|;|#a", "A", 5, 6}, {"#|\"|#a", "A", 5, 6}, {"#+small a", "A", 0, 9}, {"#-small a b", "B", 10, 11}, {"#-big a", "A", 0, 7}, {"#+big a #-small b c", "C", 18, 19}, {"#+(and small round) a", "A", 0, 21}, {"#+(and small big) a b", "B", 20, 21}, {"#+(or) a b", "B", 9, 10}, {"#+(and) a", "A", 0, 9}, {"#-(not (or big small)) a", "A", 0, 24}, {"#-(not small) a", "A", 0, 15}, {"#+:small a", "A", 0, 10}, {"#+keyword:small a", "A", 0, 17}, {"#+small #+big a b", "B", 0, 17}, {"#-small #-small a b c", "C", 20, 21}, {"#+#-small x small a", "A", 0, 19}, {"#+|small| a b", "B", 12, 13},
	} {
		x, at, e := reader.Read(options(), c.s, 0)
		if show(x.Form) != c.want || x.From != c.from || x.To != c.to || at != 0 || e != api.OK {
			t.Errorf("Read(%q) = %s from %d to %d, %d, %v; expected %s from %d to %d", c.s, show(x.Form), x.From, x.To, at, e, c.want, c.from, c.to)
		}
	}
}

func TestErrors(t *testing.T) {
	deep := strings.Repeat("(", 100)
	for _, c := range []struct {
		s    string
		at   int
		want api.Errno
	}{
		{"", 0, api.ErrNone}, {" ;x", 3, api.ErrNone}, {"#|x|# ", 6, api.ErrNone}, {"#-small a", 9, api.ErrNone}, {"#-small a #+big b ", 18, api.ErrNone},
		{"(", 1, api.ErrEnd}, {"(a b", 4, api.ErrEnd}, {"(a . b", 6, api.ErrEnd}, {"(a .", 4, api.ErrEnd}, {"'", 1, api.ErrEnd}, {"' ;", 3, api.ErrEnd}, {"`", 1, api.ErrEnd}, {"`,", 2, api.ErrEnd}, {"`,@", 3, api.ErrEnd}, {"#", 1, api.ErrEnd}, {"#12", 3, api.ErrEnd}, {"#\\", 2, api.ErrEnd}, {"#'", 2, api.ErrEnd}, {"#|a", 3, api.ErrEnd}, {"#|a#|b|#", 8, api.ErrEnd}, {"\"a", 2, api.ErrEnd}, {"\"a\\", 3, api.ErrEnd}, {"\"a\\\"", 4, api.ErrEnd}, {"|a", 2, api.ErrEnd}, {"a\\", 2, api.ErrEnd}, {"#1=", 3, api.ErrEnd}, {"#+", 2, api.ErrEnd}, {"#+small", 7, api.ErrEnd}, {"#-small", 7, api.ErrEnd}, {"#c", 2, api.ErrEnd}, {"#2a", 3, api.ErrEnd}, {"#(a", 3, api.ErrEnd}, {"#\\ab|c", 6, api.ErrEnd}, {"#:a\\", 4, api.ErrEnd}, {"#x|", 3, api.ErrEnd}, {"(a #|", 5, api.ErrEnd}, {"('#-small a", 11, api.ErrEnd},
		{")", 0, reader.ErrClose}, {" )", 1, reader.ErrClose}, {"')", 1, reader.ErrClose}, {"(a . )", 5, reader.ErrClose}, {"('", 2, api.ErrEnd}, {"(' )", 3, reader.ErrClose}, {"#1=)", 3, reader.ErrClose}, {"(#+small )", 9, reader.ErrClose}, {"(a . #-small b)", 14, reader.ErrClose}, {"#c)", 2, reader.ErrClose},
		{",x", 0, reader.ErrComma}, {"(a ,b)", 3, reader.ErrComma}, {"`,,x", 2, reader.ErrComma}, {"`(,(a ,@b))", 6, reader.ErrComma}, {"('`a ,b)", 5, reader.ErrComma}, {",", 0, reader.ErrComma},
		{"(. a)", 1, reader.ErrDot}, {"(a . b c)", 3, reader.ErrDot}, {"(a . b . c)", 3, reader.ErrDot}, {"(a . b #-small c)", 3, reader.ErrDot}, {"#(a . b)", 4, reader.ErrDot}, {"#(. a)", 2, reader.ErrDot}, {"(#-small a . b)", 11, reader.ErrDot}, {"(#|a|# . b)", 7, reader.ErrDot}, {"( . )", 2, reader.ErrDot}, {"(a . b (", 3, reader.ErrDot}, {"(.)", 1, reader.ErrDot},
		{"..", 0, token.ErrDots}, {".", 0, token.ErrDots}, {"(a ..)", 3, token.ErrDots}, {"'.", 1, token.ErrDots}, {"(a . .)", 5, token.ErrDots}, {"(.. a)", 1, token.ErrDots}, {"#(..)", 2, token.ErrDots}, {"#+.", 2, token.ErrDots},
		{"a:b:c", 0, token.ErrMarker}, {"(x a:)", 3, token.ErrMarker}, {"::x", 0, token.ErrMarker}, {":", 0, token.ErrMarker}, {"#:a:b", 0, token.ErrMarker}, {"(#::a)", 1, token.ErrMarker}, {"1:2:3", 0, token.ErrMarker},
		{"\x01", 0, token.ErrInvalid}, {"(a \x7f)", 3, token.ErrInvalid}, {"(ab\x01)", 1, token.ErrInvalid}, {"'a\x01", 1, token.ErrInvalid}, {"#xa\x01", 0, token.ErrInvalid}, {"(#\\ab\x01)", 1, token.ErrInvalid}, {"#\\a#\x01", 0, token.ErrInvalid}, {"#:a\x01", 0, token.ErrInvalid},
		{"(a #<b)", 3, reader.ErrHash}, {"#2'x", 0, reader.ErrHash}, {"#0'x", 0, reader.ErrHash}, {"#0+small a", 0, reader.ErrHash}, {"# a", 0, reader.ErrHash}, {"#)", 0, reader.ErrHash}, {"#1234(a)", 0, reader.ErrHash}, {"#0000", 0, reader.ErrHash}, {"#=a", 0, reader.ErrHash}, {"##", 0, reader.ErrHash}, {"#r1", 0, reader.ErrHash}, {"#1r0", 0, reader.ErrHash}, {"#37r0", 0, reader.ErrHash}, {"#37r", 0, reader.ErrHash}, {"#a(1)", 0, reader.ErrHash}, {"#2\\a", 0, reader.ErrHash}, {"#2:a", 0, reader.ErrHash}, {"#2b1", 0, reader.ErrHash}, {"#8o1", 0, reader.ErrHash}, {"#16xf", 0, reader.ErrHash}, {"#1c(1 2)", 0, reader.ErrHash}, {"#1|a|#", 0, reader.ErrHash}, {"#1+small a", 0, reader.ErrHash}, {"#1-small a", 0, reader.ErrHash}, {"#é", 0, reader.ErrHash}, {"#\x01", 0, reader.ErrHash}, {"#\"a\"", 0, reader.ErrHash}, {"#;", 0, reader.ErrHash}, {"#.1", 0, reader.ErrHash}, {"#s(a)", 0, reader.ErrHash}, {"#p\"a\"", 0, reader.ErrHash}, {"#`a", 0, reader.ErrHash}, {"#,a", 0, reader.ErrHash}, {"#1", 2, api.ErrEnd},
		{`#\foo`, 0, reader.ErrChar}, {`(a #\sp)`, 3, reader.ErrChar}, {`#\u12`, 0, reader.ErrChar}, {`#\ud800`, 0, reader.ErrChar}, {`#\u110000`, 0, reader.ErrChar}, {`#\;x`, 0, reader.ErrChar}, {`#\||`, 4, api.ErrEnd}, {`#\'a`, 0, reader.ErrChar}, {`#\ a`, 0, reader.ErrChar}, {`#\a#`, 0, reader.ErrChar}, {`#\##b`, 0, reader.ErrChar}, {`#\U+0041`, 0, reader.ErrChar},
		{"#1(a b)", 0, reader.ErrShape}, {"#1()", 0, reader.ErrShape}, {"(a #0(a))", 3, reader.ErrShape}, {"#3(a #1=b)", 0, reader.ErrShape}, {"#2((#1=b))", 0, reader.ErrShape}, {"#2(#1=b)", 0, reader.ErrShape}, {"#1*10", 0, reader.ErrShape}, {"#1*", 0, reader.ErrShape}, {"#0*1", 0, reader.ErrShape}, {"#2a((1) (2 3))", 0, reader.ErrShape}, {"#2a(a)", 0, reader.ErrShape}, {"#1a a", 0, reader.ErrShape}, {"#2a(#1=(a))", 0, reader.ErrShape}, {"#1a(a . b)", 0, reader.ErrShape}, {"#1a#1=(a)", 0, reader.ErrShape},
		{"#8a()", 0, api.ErrArg}, {"#100a a", 0, api.ErrArg},
		{"#*102", 0, api.ErrForm}, {"#*|01|", 0, api.ErrForm}, {"#*a", 0, api.ErrForm}, {"#1*ab", 0, api.ErrForm}, {"#xg", 0, api.ErrForm}, {"#x", 0, api.ErrForm}, {"#x 1", 0, api.ErrForm}, {"#x|1|", 0, api.ErrForm}, {"#b1.5", 0, api.ErrForm}, {"#b2", 0, api.ErrForm}, {"#x1/2/3", 0, api.ErrForm}, {"#xa:b", 0, api.ErrForm}, {"#10r1d0", 0, api.ErrForm},
		{"#c(1)", 0, api.ErrForm}, {"#c(1 2 3)", 0, api.ErrForm}, {"#c(1 . 2)", 0, api.ErrForm}, {"#c1", 0, api.ErrForm}, {"#c()", 0, api.ErrForm}, {"#c(a 1)", 0, api.ErrForm}, {"#c(1 #c(1 2))", 0, api.ErrForm}, {"#c(#1=1 2)", 0, api.ErrForm}, {"#c#1=(1 2)", 0, api.ErrForm}, {"(#1=1 #c(#1# 2))", 6, api.ErrForm}, {"#c#(1 2)", 0, api.ErrForm}, {"#c(1 2 . 3)", 0, api.ErrForm},
		{"#+(xor) a b", 0, api.ErrForm}, {"#+1 a", 0, api.ErrForm}, {"#+p:a a", 0, api.ErrForm}, {"#+nil a", 7, api.ErrNone}, {"#+() a", 0, api.ErrForm}, {"#+(not) a", 0, api.ErrForm}, {"#+(not a b) a", 0, api.ErrForm}, {"#+(and . small) a", 0, api.ErrForm}, {"#+#1=small a", 0, api.ErrForm}, {"#+\"a\" (", 0, api.ErrForm}, {"(#-(or small (and big 1)) a)", 1, api.ErrForm}, {"#+#:small a", 0, api.ErrForm},
		{"(#1=a #1=b)", 6, api.ErrTwice}, {"#1=(#1=a)", 4, api.ErrTwice}, {"(#1=a #-small #1=b)", 14, api.ErrTwice}, {"#1=(#01=a)", 4, api.ErrTwice}, {"(#1=a #1=", 6, api.ErrTwice},
		{"#1#", 0, forms.ErrLabel}, {"#1=#1#", 0, forms.ErrLabel}, {"#1=#2=a", 0, forms.ErrLabel}, {"(#1# #1=a)", 1, forms.ErrLabel}, {"(#-small #1=a #1#)", 14, forms.ErrLabel}, {"#1=#-small a #1#", 0, forms.ErrLabel}, {"(#1=a #2=#1#)", 6, forms.ErrLabel}, {"(#+#-small #1=x small #1#)", 22, forms.ErrLabel},
		{"1/0", 0, api.ErrZero}, {"(a 1/0)", 3, api.ErrZero}, {"#b1/0", 0, api.ErrZero}, {"1e39", 0, api.ErrOver}, {"#b1e39", 0, api.ErrOver}, {"(#c(1e38 1d309))", 9, api.ErrOver}, {"#c(1.0 1" + strings.Repeat("0", 40) + ")", 0, api.ErrOver},
		{deep + "a", 100, api.ErrSize}, {deep + "(", 100, api.ErrSize}, {deep + ";\n\x01", 102, api.ErrSize}, {deep + "'", 100, api.ErrSize}, {deep + "#|a|# #<", 106, api.ErrSize}, {deep + "#-small a", 100, api.ErrSize}, {deep + " .", 101, reader.ErrDot}, {deep + "..", 100, api.ErrSize}, {deep, 100, api.ErrEnd}, {strings.Repeat("'", 100) + ")", 100, api.ErrSize}, {strings.Repeat("'", 100), 100, api.ErrEnd}, {strings.Repeat("#+small ", 50) + deep, 450, api.ErrSize}, {strings.Repeat("#-small a ", 50) + deep, 600, api.ErrEnd}, {"#+" + deep, 101, api.ErrSize},
	} {
		for _, ahead := range []string{"", "\n", "#|é|#"} {
			r, at, e := reader.Read(options(), ahead+c.s, 0)
			if at != c.at+len(ahead) || e != c.want || !isZero(r) {
				t.Errorf("Read(%q) = %s, %d, %v; expected %d, %v", ahead+c.s, show(r.Form), at, e, c.at+len(ahead), c.want)
			}
		}
	}
}

// A form that cannot be read has the error that comes first in the text, whatever its size.
func TestSizes(t *testing.T) {
	great := "#999(#999(#999(#999(#999(#999(a))))))"
	for _, c := range []struct {
		s    string
		at   int
		want api.Errno
	}{
		{"(" + strings.Repeat(" a", 1998) + ")", 0, api.OK}, {"(" + strings.Repeat(" a", 1999) + ")", 0, api.ErrSize}, {"a (" + strings.Repeat(" a", 1998) + ")", 0, api.OK}, {"#|é|# #999(#2(a))", 7, api.ErrSize}, {"#999(a)", 0, api.OK}, {"#2(#999(a))", 0, api.ErrSize}, {"#-small " + great + "b", 0, api.OK},
		{great, 0, api.ErrSize}, {"(" + great + ")", 0, api.ErrSize}, {"'" + great, 0, api.ErrSize}, {"#1=" + great, 0, api.ErrSize}, {"(" + great + " . " + great + ")", 0, api.ErrSize}, {"(a . (b " + great + "))", 0, api.ErrSize}, {"(" + great + " )) ", 0, api.ErrSize}, {"(" + great, len(great) + 1, api.ErrEnd}, {"(" + great + " 1/0)", len(great) + 2, api.ErrZero}, {"#+" + great + " a", 0, api.ErrForm}, {"#+(or " + great + ") a", 0, api.ErrForm}, {"#c" + great, 0, api.ErrForm}, {"#c(1 " + great + ")", 0, api.ErrForm}, {"#1a" + great, 0, api.ErrSize}, {"(a #2a" + great + " 1/0)", 3, api.ErrSize}, {"#2(#1=" + great + ")", 0, reader.ErrShape}, {"`(," + great + ")", 0, api.ErrSize},
		{"#1a\"" + strings.Repeat("x", 1999) + "\"", 0, api.OK}, {"#1a\"" + strings.Repeat("x", 2000) + "\"", 0, api.ErrSize}, {"#1a\"" + strings.Repeat("x", 2001) + "\"", 0, api.ErrSize}, {"\"" + strings.Repeat("x", 3998) + "\"", 0, api.OK}, {strings.Repeat("(", 100) + strings.Repeat(")", 100), 0, api.OK}, {strings.Repeat("'", 99) + "a", 0, api.OK}, {strings.Repeat("#-small a ", 200) + "(a)", 0, api.OK},
		{"#+(or" + strings.Repeat("(or)", 990) + "small) a", 0, api.OK},
	} {
		r, at, e := reader.Read(options(), c.s, 0)
		if e != c.want || at != c.at || e != api.OK && !isZero(r) || e == api.OK && forms.Check(r.Form) != api.OK {
			t.Errorf("Read(%.30q) = %d, %v; expected %d, %v", c.s, at, e, c.at, c.want)
		}
	}
}

func TestReadtables(t *testing.T) {
	for _, c := range []struct {
		pairs, s, want string
		e              api.Errno
	}{
		{"!3", "a!b", "A", api.OK}, {"!3", "!", "", reader.ErrMacro}, {"!4", "(a !b)", "", reader.ErrMacro}, {"!4", "a!b", "A!B", api.OK}, {"'2", "'a", "'A", api.OK}, {"(2)2", "(a)", "(A)", api.OK}, {"(2", ")", "", reader.ErrClose}, {"(4)4", "(a )", "(A)", api.OK}, {"(4)4", "(a)", "", api.ErrEnd}, {")2", "(a )", "", api.ErrEnd}, {";2", "a;b", "A;B", api.OK}, {";1", "a;b", "A", api.OK}, {";4", ";a\nb", "B", api.OK}, {"\"4", "\"a\"", "\"a\"", api.OK}, {"\"1", "a\"b\"", "A", api.OK}, {"#2", "#|a|#", "#a#", api.OK}, {"#3", "a#|b|#", "A", api.OK}, {"#3", "#\\a", "\\a", api.OK}, {"#5", "#|a", "|A", api.OK},
		{"|2", "#|a|#b", "B", api.OK}, {"|2", "|a|", "|A|", api.OK}, {"|1", "#|a|#b", "B", api.OK}, {"\\2", "#\\a", "\\a", api.OK}, {"\\1", "#\\a", "\\a", api.OK}, {"\\2", "\"a\\\"", "\"a\\\\\"", api.OK}, {"!5", "\"a!\"b\"", "\"a\\\"b\"", api.OK}, {"!5", "!(b", "(B", api.OK}, {"!6", "!a b!", "a b", api.OK}, {"!5", "#\\!", "\\!", api.OK}, {"!5", "#\\sp!ace", "\\ ", api.OK}, {"!5", "#*0!1", "", api.ErrForm}, {"@1", "`,@a", "(READER:BACKQUOTE (READER:SPLICE A))", api.OK}, {"@0", "`,@a", "(READER:BACKQUOTE (READER:SPLICE A))", api.OK},
		{".4", "(a . b)", "", reader.ErrMacro}, {".5", "(a . b)", "(A  B)", api.OK}, {"13", "(2 12)", "", reader.ErrMacro}, {"13", "#1=a", "1=A", api.OK}, {":3", "a:b", "A", api.OK}, {":4", ":a", "", reader.ErrMacro}, {":4", "a:b", "A:B", api.OK}, {":5", "a:b", "Ab", api.OK}, {"a0", "a", "", token.ErrInvalid}, {"a1", "bac", "B", api.OK}, {"\n2", ";a\nb", "\nB", api.OK}, {" 2", "(a b)", "(A B)", api.OK}, {"$0", "#\\$a", "", reader.ErrChar}, {"$0", "#\\$", "\\$", api.OK}, {"$4", "#\\$$", "", reader.ErrChar}, {"$3", "#\\a$", "\\a", api.OK},
	} {
		r, _, e := reader.Read(with(t, c.pairs), c.s, 0)
		if e != c.e || e == api.OK && show(r.Form) != c.want {
			t.Errorf("Read(%q) with %q = %s, %v; expected %s, %v", c.s, c.pairs, show(r.Form), e, c.want, c.e)
		}
	}
	for _, c := range []struct {
		mode    int
		s, want string
	}{{token.Upcase, "aB", "AB"}, {token.Downcase, "aB", "ab"}, {token.Preserve, "aB", "aB"}, {token.Invert, "ab", "AB"}, {token.Invert, "aB", "aB"}, {token.Downcase, "#\\SPACE", "\\ "}, {token.Invert, "1E5", "$47c35000"}, {token.Downcase, "#:Ab", ":ab"}, {token.Preserve, "#+SMALL a", "a"}, {token.Downcase, "#+small a b", "b"}, {token.Preserve, "'a", "(COMMON-LISP:QUOTE a)"}, {token.Downcase, "#XFF", "255"}} {
		o := options()
		o.Table.Case = c.mode
		if r, _, e := reader.Read(o, c.s, 0); show(r.Form) != c.want || e != api.OK {
			t.Errorf("Read(%q) in case %d = %s, %v; expected %s", c.s, c.mode, show(r.Form), e, c.want)
		}
	}
}

func TestBases(t *testing.T) {
	for _, c := range []struct {
		base    int
		double  bool
		s, want string
	}{{16, false, "(ff fg 10 10. 1.5)", "(255 FG 16 10 $3fc00000)"}, {2, false, "(101 102)", "(5 102)"}, {10, true, "(1.5 1f0 1e0)", "($3ff8000000000000 $3f800000 $3ff0000000000000)"}, {36, false, "nil", "30477"}, {16, true, "#b101", "5"}, {16, false, "#c(a b)", "#C[10 11]"}, {16, false, "#+small a", "10"}, {16, false, "|ff|", "ff"}} {
		o := options()
		o.Base, o.Double = c.base, c.double
		if r, _, e := reader.Read(o, c.s, 0); show(r.Form) != c.want || e != api.OK {
			t.Errorf("Read(%q) in the base %d = %s, %v; expected %s", c.s, c.base, show(r.Form), e, c.want)
		}
	}
	o := options()
	o.Double = true
	if _, at, e := reader.Read(o, "#b1e39", 0); at != 0 || e != api.ErrForm {
		t.Errorf("Read of a double float as a binary number: %d, %v", at, e)
	}
}

func TestReferences(t *testing.T) {
	for _, c := range []struct{ s, want string }{
		{"(a q:b q::c #:d |e f|)", "P::A@1 Q:B@3 Q::C@7 P::e f@16"}, {"'a", "P::A@1"}, {"`(,a . b)", "P::A@3 P::B@7"}, {"(a a 1 \"x\" #\\b #*1)", "P::A@1 P::A@3"}, {"#3(a b)", "P::A@3 P::B@5"}, {"#2a((a) (b))", "P::A@5 P::B@9"}, {"#-small (x y) a", "P::A@14"}, {"#+(or small big) (a)", "P::A@18"}, {"(#-small x a #+small b)", "P::A@11 P::B@21"}, {"(#1=a #1#)", "P::A@4"}, {"()", ""}, {"#|a|# b", "P::B@6"}, {"é:x", "é:X@0"}, {"(é x)", "P::é@1 P::X@4"}, {"nil", "P::NIL@0"}, {"common-lisp::nil", "COMMON-LISP::NIL@0"}, {"#'f", "P::F@2"}, {"#+small #-small x a", "P::A@18"}, {"keyword:a", "KEYWORD:A@0"},
	} {
		r, _, e := reader.Read(options(), c.s, 0)
		if got := names(r.References, true); got != c.want || e != api.OK {
			t.Errorf("References of %q = %s, %v; expected %s", c.s, got, e, c.want)
		}
	}
	r, _, e := reader.Read(options(), " :k", 0)
	if e != api.OK || len(r.References) != 1 || r.References[0].Home != "KEYWORD" || r.References[0].Name != "K" || r.References[0].At != 1 {
		t.Errorf("References of :k = %v, %v", r.References, e)
	}
}

func TestBlank(t *testing.T) {
	for _, c := range []struct {
		s      string
		at, to int
	}{{"", 0, 0}, {" \t\n\f\r a", 0, 6}, {";a\n b", 0, 4}, {";a", 0, 2}, {"#|a|#;b\n#|c|# ", 0, 14}, {"a b", 0, 0}, {"a b", 1, 2}, {"#", 0, 0}, {"#a", 0, 0}, {"#1|a|#", 0, 0}, {"|#", 0, 0}, {"é ;é", 2, 5 + 1}, {" #-small a", 0, 1}, {"#|#|a|#|#b", 0, 9}, {" )", 0, 1}, {" \x01", 0, 1}} {
		if got, at, e := reader.Blank(options(), c.s, c.at); got != c.to || at != 0 || e != api.OK {
			t.Errorf("Blank(%q, %d) = %d, %d, %v; expected %d", c.s, c.at, got, at, e, c.to)
		}
	}
	for _, s := range []string{"#|", " #|a|", ";x\n#|#||#", "#||"} {
		if got, at, e := reader.Blank(options(), s, 0); got != 0 || at != len(s) || e != api.ErrEnd {
			t.Errorf("Blank(%q) = %d, %d, %v", s, got, at, e)
		}
	}
	if got, _, e := reader.Blank(with(t, "#2"), " #|a|# ", 0); got != 1 || e != api.OK {
		t.Errorf("Blank where # is no macro character = %d, %v", got, e)
	}
	if got, _, e := reader.Blank(with(t, ";1"), " ;a", 0); got != 2 || e != api.OK {
		t.Errorf("Blank where ; is white = %d, %v", got, e)
	}
}

func TestAll(t *testing.T) {
	l, at, e := reader.All(options(), "a (b) #-small x 'c ;d\n1")
	if showAll(l) != "A (B) (COMMON-LISP:QUOTE C) 1" || at != 0 || e != api.OK {
		t.Errorf("All = %s, %d, %v", showAll(l), at, e)
	}
	places := ""
	for _, x := range l {
		places += strconv.Itoa(x.From) + "-" + strconv.Itoa(x.To) + " "
	}
	if places != "0-1 2-5 16-18 22-23 " {
		t.Errorf("All has the places %s", places)
	}
	for _, s := range []string{"", " ", ";a", "#-small a"} {
		if l, at, e := reader.All(options(), s); len(l) != 0 || at != 0 || e != api.OK {
			t.Errorf("All(%q) = %s, %d, %v", s, showAll(l), at, e)
		}
	}
	for _, c := range []struct {
		s    string
		at   int
		want api.Errno
	}{{"a b )", 4, reader.ErrClose}, {"a (b", 4, api.ErrEnd}, {"a #|", 4, api.ErrEnd}, {"a 1/0 )", 2, api.ErrZero}, {"#1=a #1#", 5, forms.ErrLabel}, {"a #2(#999(b)) )", 2, api.ErrSize}} {
		if l, at, e := reader.All(options(), c.s); len(l) != 0 || at != c.at || e != c.want {
			t.Errorf("All(%q) = %s, %d, %v; expected %d, %v", c.s, showAll(l), at, e, c.at, c.want)
		}
	}
	if l, _, e := reader.All(options(), "#1=a #1=b"); showAll(l) != "1=A 1=B" || e != api.OK {
		t.Errorf("All with the same label twice = %s, %v", showAll(l), e)
	}
}

func TestOne(t *testing.T) {
	for _, c := range []struct {
		s    string
		at   int
		want api.Errno
	}{{"a", 0, api.OK}, {"a ;b", 0, api.OK}, {" a #|b|# #-small c", 0, api.OK}, {"", 0, api.ErrNone}, {" ;", 2, api.ErrNone}, {"a b", 2, api.ErrTwice}, {"a #-small b (c) )", 12, api.ErrTwice}, {"(a)'b", 3, api.ErrTwice}, {"a )", 2, reader.ErrClose}, {"(a", 2, api.ErrEnd}, {"a (", 3, api.ErrEnd}, {"a #|", 4, api.ErrEnd}, {") a", 0, reader.ErrClose}} {
		r, at, e := reader.One(options(), c.s)
		if at != c.at || e != c.want || e != api.OK && !isZero(r) {
			t.Errorf("One(%q) = %s, %d, %v; expected %d, %v", c.s, show(r.Form), at, e, c.at, c.want)
		}
	}
}
