package format_test

import (
	"strings"
	"testing"

	"commonform/api"
	"commonform/format"
)

func TestCheck(t *testing.T) {
	for _, s := range []string{
		"", "plain", "é\xff", "~a~S~d~B~o~X~r~F~c~$~P~%~|~~~&~\n~T~*~?~^", "~(~)~[~]~{~}~<~>", "~:@A", "~@:A", "~5A", "~+5,-3A", "~'xA", "~',A", "~':A", "~'~A", "~''A", "~v,V,#,'vA", "~,A", "~,,,A", "~,,,,R", "~,,,,F", "~1,2,3^", "~123456789D", "~-123456789D", "~000000001D",
		"~[a~;b~:;c~]", "~[~:;~]", "~:[~;~]", "~@[~]", "~[~;~;~;~]", "~<~;~;~>", "~<~@;~>", "~[~@;~]", "~[~<~;~>~]", "~{~[a~;b~]~}", "~:{~:^~}", "~:{~(~:^~)~[~:^~;~]~}", "~:@{~:^~}", "~{~:{~:^~}~}", "~:@(~:)", "~{~:}", "~{~@}", "~<~:>", "~[~:]", "~:C~:P~:?~:%~:~~:&~:|~:\n~@^~:$~:F",
		strings.Repeat("~(", 20) + strings.Repeat("~)", 20), strings.Repeat("a", 4000), strings.Repeat("~(~)", 1000),
	} {
		if e := format.Check(s); e != api.OK {
			t.Errorf("Check(%.50q): %v", s, e)
		}
	}
	for _, s := range []string{
		"~", "a~", "~5", "~5,", "~,", "~:", "~@", "~:@", "~'", "~'x", "~#", "~v", "~-", "~+A", "~-A", "~+-5A", "~5 A", "~ A", "~::A", "~@@A", "~:@:A", "~5:5A", "~:5A", "~1234567890A", "~-1234567890A", "~0000000001A", "~vvA", "~v5A", "~#5A", "~'xyA", "~1.A", "~'éA",
		"~Q", "~W", "~E", "~G", "~I", "~_", "~/", "~é", "~\x00", "~\t", "~\r", "~=", "~!", "~5!", "~1",
		"~(", "~[", "~{", "~<", "~)", "~]", "~}", "~>", "~;", "~(~]", "~[~)", "~{~>", "~<~}", "~(~[~)~]", "~{~(~}~)", "~(~)~)", "~(~(~)",
		"~(~;~)", "~{~;~}", "~[~(~;~)~]", "~<~{~;~}~>", "a~;b", "~[~{~}~(~;~)~]",
		"~:[~]", "~:[a~]", "~:[a~;b~;c~]", "~@[a~;b~]", "~:@[a~;b~]", "~:@[a~]", "~[a~:;b~;c~]", "~[a~:;b~:;c~]", "~:[a~:;b~]", "~@[a~:;b~]", "~<a~:;b~>", "~<a~;b~:;c~>",
		"~:T", "~:@T", "~:@*", "~:^", "~{~:^~}", "~@{~:^~}", "~:{~{~:^~}~}", "~:{~<~:^~>~}", "~(~:^~)", "~:{~}~:^", "~:{~<~{~:^~}~>~}", "~:{~<~(~:^~)~>~}",
		strings.Repeat("~(", 21) + strings.Repeat("~)", 21), strings.Repeat("~(~[~{~<", 6) + strings.Repeat("~>~}~]~)", 6),
	} {
		if e := format.Check(s); e != api.ErrForm {
			t.Errorf("Check(%.50q): %v", s, e)
		}
		made(t, s, many(1001, api.Form{}), "", api.ErrForm)
	}
	for _, s := range []string{strings.Repeat("a", 4001), strings.Repeat("~", 4001)} {
		if e := format.Check(s); e != api.ErrSize {
			t.Errorf("Check of %d bytes: %v", len(s), e)
		}
		made(t, s, many(1001, api.Form{}), "", api.ErrSize)
	}
}

// Each directive may have as many parameters as are named, and no more.
func TestNumbersOfParameters(t *testing.T) {
	for directives, most := range map[string]int{"A S D B O X $": 4, "a s d b o x": 4, "R F r f": 5, "C P ? \n c p": 0, "% | ~ & *": 1, "T t": 2, "^": 3, "(x~)": 0, "[x~]": 1, "{x~}": 1, "<x~>": 4} {
		for d := range strings.SplitSeq(directives, " ") {
			for n := range 7 {
				for _, parameter := range []string{"", "1", "v", "#", "'x"} {
					control := "~" + strings.Repeat(parameter+",", max(0, n-1)) + parameter + d
					given := n
					if parameter == "" && n < 2 {
						given = 0 // no comma
					} else if n == 0 {
						given = 1
					}
					want := api.OK
					if given > most {
						want = api.ErrForm
					}
					if e := format.Check(control); e != want {
						t.Errorf("Check(%q): %v; expected %v", control, e, want)
					}
				}
			}
		}
	}
	for _, s := range []string{"~(~1)", "~[~1]", "~{~1}", "~<~1>", "~[~1;~]", "~<~1;~>", "~(~,)", "~[~#;~]"} {
		if e := format.Check(s); e != api.ErrForm {
			t.Errorf("Check(%q): %v", s, e)
		}
	}
}

// Parameters are found from left to right, each is looked at for its kind and its range, and then the arguments are taken.
func TestParameters(t *testing.T) {
	check(t,
		row{"~vA|", `3 "a"`, "a  |", 0}, row{"~vA|", `nil "a"`, "a|", 0}, row{"~,,,vA|~5,,,VA|", `#\* "a" #\- "b"`, "a|b----|", 0}, row{"~#A|~#A|", `"a" "b"`, "a |b|", 0}, row{"~v,#,#A|", `3 1 2`, "1  |", 0}, row{"~+3A|", "1", "1  |", 0}, row{"~003A|", "1", "1  |", 0}, row{"~3,'0D~3,'~D~3,'vD", "1 2 3", "001~~2vv3", 0}, row{"~3,',D", "1", ",,1", 0},
		row{"~v,vA|", "", "", api.ErrNone}, row{"~v,vA|", "1", "", api.ErrNone}, row{"~vA", "1", "", api.ErrNone}, row{"~v,'xA", "", "", api.ErrNone}, row{"~'x,vA", "", "", api.ErrType}, row{"~1001,vA", "", "", api.ErrRange}, row{"~v,1001A", "#\\a 1", "", api.ErrType}, row{"~v,'xA", "1001 1", "", api.ErrRange},
		row{"~vA", `"a" 1`, "", api.ErrType}, row{"~vA", `1.0 1`, "", api.ErrType}, row{"~vA", `t 1`, "", api.ErrType}, row{"~vA", `#\a 1`, "", api.ErrType}, row{"~,,,vA", `1 1`, "", api.ErrType}, row{"~,,,vA", `#\é 1`, "", api.ErrType}, row{"~vA", `#\é 1`, "", api.ErrType}, row{"~,,,#A", `1`, "", api.ErrType}, row{"~,,,5A", `1`, "", api.ErrType}, row{"~'aA", `1`, "", api.ErrType},
		row{"~1000A", `""`, strings.Repeat(" ", 1000), 0}, row{"~1001A", `""`, "", api.ErrRange}, row{"~-1A", `""`, "", api.ErrRange}, row{"~vA", `1001 ""`, "", api.ErrRange}, row{"~vA", `-1 ""`, "", api.ErrRange}, row{"~vA", `1000000000 ""`, "", api.ErrRange}, row{"~vA", `1000000001 ""`, "", api.ErrRange}, row{"~,,,vA", `1000000001 ""`, "", api.ErrType},
		row{"~v^a", "1000000000", "a", 0}, row{"~v^a", "-1000000000", "a", 0}, row{"~v^a", "1000000001", "", api.ErrRange}, row{"~v^a", "-1000000001", "", api.ErrRange}, row{"~v^a", "100000000000000000000000", "", api.ErrRange},
	)
	made(t, "~v^a", []api.Form{long(20000)}, "", api.ErrRange)
	made(t, "~v^a", []api.Form{long(20001)}, "", api.ErrType)
}

func TestArguments(t *testing.T) {
	made(t, "~A", many(1000, num(1)), "1", api.OK)
	made(t, "~A", many(1001, num(1)), "", api.ErrSize)
	made(t, "~A", many(1001, api.Form{}), "", api.ErrSize)
	label := func(text string, kid api.Form) api.Form { return node(api.FormLabel, text, kid) }
	ref := node(api.FormRef, "0")
	deep := null()
	for range 99 {
		deep = list(deep)
	}
	wide := node(api.FormVector, "", many(1999, num(1))...)
	complex := node(api.FormComplex, "", num(1), num(2))
	for _, x := range []api.Form{
		num(1), deep, wide, label("0", node(api.FormVector, "", many(1998, num(1))...)), label("0", list(node(api.FormSingle, "7f800000"))), label("0", list(ref)), label("0", num(1)), label("0", complex), label("7", str("a")), label("0", node(api.FormArray, "", ref)), str(strings.Repeat("a", 200000)), long(30000), node(api.FormSingle, "7f800000"), list(node(api.FormDouble, "ffffffffffffffff")), node(api.FormArray, "", node(api.FormSingle, "7fffffff")), list(api.Form{Kind: api.FormSymbol, Text: "QUOTE", Home: "COMMON-LISP"}, node(api.FormSingle, "7fffffff")), node(api.FormRatio, "1000000000000000000/2000000000000000000"),
		node(api.FormVector, "", append([]api.Form{label("0", complex)}, many(1995, ref)...)...),
	} {
		made(t, "a", []api.Form{x}, "a", api.OK)
		made(t, "a~2*", []api.Form{x}, "", api.ErrNone)
	}
	for _, x := range []api.Form{
		{}, node(api.FormInt, "01"), node(99, ""), ref, list(ref), label("0", ref), label("0", label("1", num(1))), list(label("0", str("")), label("0", str(""))), list(deep), node(api.FormVector, "", append(many(1999, num(1)), num(1))...), str("\xff"), node(api.FormChar, "ab"), node(api.FormCons, "", num(1)), node(api.FormVector, "x"), node(api.FormRatio, "2/4"), node(api.FormSymbol, "A", many(1999, num(1))...), node(api.FormLabel, "0"), label("1000", str("")), {Kind: api.FormInt, Text: "1", Home: "P"}, node(api.FormLabel, "0", num(1), num(2)),
	} {
		made(t, "a", []api.Form{num(1), x}, "", api.ErrForm)
	}
}
