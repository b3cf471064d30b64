package symbols_test

import (
	"math/rand"
	"strconv"
	"strings"
	"testing"

	"commonform/api"
	"commonform/symbols"
)

const first = "package CL: CL - - - -\npackage KEYWORD - - - - -\npackage USER USER CL: - - -\n"

// expand writes the names of a text in digits: words in great letters (with a colon or without), of which CL: and USER stand for the first packages and their nicknames.
func expand(s string) string {
	var lines []string
	for line := range strings.SplitSeq(strings.TrimSuffix(s, "\n"), "\n") {
		words := strings.Split(line, " ")
		for i, word := range words {
			if i == 0 || word == "-" {
				continue
			}
			parts := strings.Split(word, ",")
			for k, part := range parts {
				parts[k] = expandWord(words[0], i, part)
			}
			words[i] = strings.Join(parts, ",")
		}
		lines = append(lines, strings.Join(words, " "))
	}
	return strings.Join(lines, "\n") + "\n"
}

func expandWord(kind string, i int, word string) string {
	switch {
	case word == "CL:":
		return hexed("COMMON-LISP")
	case word == "USER" && !(kind == "package" && i == 2):
		return hexed("COMMON-LISP-USER")
	case word == "USER":
		return hexed("CL-USER")
	case word == "CL":
		return hexed("CL")
	case word == "_":
		return "x"
	case word != "" && word[0] >= 'A' && word[0] <= 'Z':
		return hexed(word)
	}
	return word
}

// p is the text of a table with the first packages and further lines, and symbols ahead.
func p(ahead, behind string) string {
	return expand(ahead + first + behind)
}

func TestParse(t *testing.T) {
	right := []string{
		p("", ""), p("", "package P - - - - -\n"), p("symbol X P\n", "package P - - 0 - -\n"), p("symbol X P\n", "package P - - - 0 0\n"), p("symbol X -\n", ""), p("symbol x000f10ff0a20 -\nsymbol "+hexed(long[1:])+" -\n", ""), p("symbol _ -\nsymbol X -\n", "package P N,_ USER,CL: 0 1 0,1\n"), p("symbol X P\nsymbol X Q\n", "package P - Q 0 - 0\npackage Q - P - 1 -\n"), p("symbol X P\nsymbol X Q\n", "package P - - - 0 -\npackage Q - - - 1 -\npackage R - - - - -\n"), p("symbol X P\n", "package P - - - 0 -\npackage Q - - - 0 -\npackage R - P,Q - - -\n"), p("symbol X P\nsymbol X Q\nsymbol X -\n", "package P - - - 0 -\npackage Q - - - 1 -\npackage R - P,Q 2 - 2\n"),
		strings.Replace(p("", ""), "x434c2d55534552 x434f4d4d4f4e2d4c495350", "x434c2d55534552 -", 1), expand("symbol X KEYWORD\npackage CL: CL - - - -\npackage KEYWORD - CL: 0 - 0\npackage USER USER - - - -\n"),
	}
	for i, s := range right {
		x, e := symbols.Parse(s)
		if e != api.OK || x.Text() != s {
			t.Errorf("Parse of %d: %v\n%s", i, e, s)
		}
	}
	for i, s := range wrong() {
		if x, e := symbols.Parse(s); x != nil || e != api.ErrForm {
			t.Errorf("Parse of the wrong text %d: %v\n%s", i, e, s)
		}
	}
	if x, e := symbols.Parse(strings.Repeat("x", 200001)); x != nil || e != api.ErrSize {
		t.Errorf("Parse of a long text: %v", e)
	}
	if x, e := symbols.Parse(strings.Repeat("x", 200000)); x != nil || e != api.ErrForm {
		t.Errorf("Parse of a long text: %v", e)
	}
}

// wrong returns texts of no right table.
func wrong() []string {
	clean := p("symbol X P\nsymbol Y -\n", "package P N CL:,USER 0 1 0,1\n")
	l := []string{"", "\n", clean + "\n", "\n" + clean, clean[:len(clean)-1], clean[1:], clean + "x", strings.ReplaceAll(clean, "\n", "\r\n"), " " + clean, strings.Replace(clean, " ", "  ", 1), strings.Replace(clean, "\n", " \n", 1)}
	for _, c := range [][2]string{
		// not as Text writes it
		{"symbol x58", "symbol X58"}, {"symbol x58", "symbol x5"}, {"symbol x58", "symbol 58"}, {"symbol x58", "symbol x5g"}, {"symbol x59", "symbol x5A"}, {"symbol x59 -", "symbol x59 x"}, {"symbol x59 -", "symbol x59"}, {"symbol x59 -", "symbol x59 - -"}, {"symbol x59", "Symbol x59"}, {"symbol x59", "symbols x59"}, {" 0 1 0,1", " 0 1 1,0"}, {" 0 1 0,1", " 0 1 0,0"}, {" 0 1 0,1", " 0 01 0,1"}, {" 0 1 0,1", " +0 1 0,1"}, {" 0 1 0,1", " 0 1 0,"}, {" 0 1 0,1", " 0 1 ,"}, {" 0 1 0,1", " 0 1 "}, {" 0 1 0,1", " 0 1"}, {" 0 1 0,1", " 0 1 0,1 -"}, {" 0 1 0,1", " 0 1 x"}, {" 0 1 0,1", " 0 1 -1"}, {" 0 1 0,1", " 0,1 1 -"}, {" 0 1 0,1", " 0,0 1 -"}, {" 0 1 0,1", " 1 0,1 -"}, {" 0 1 0,1", " 1,0 - -"}, {" 0 1 0,1", " 0 1 99999999999999999999"}, {"x434f4d4d4f4e2d4c495350 x434c -", "x434f4d4d4f4e2d4c495350 x434c x"}, {"x4e ", "4e "}, {"x4e ", "x4e,x4e "}, {"x4e ", "x4e, "},
		// not right
		{" 0 1 0,1", " 0 2 0,1"}, {" 0 1 0,1", " 2 1 1"}, {" 0 1 0,1", " 0 - 1"}, {" 0 1 0,1", " 0 - 2"}, {" 0 1 0,1", " - 1 -"}, {"x59 -", "x59 x51"}, {"x59 -", "x59 x4e"}, {"x59 -", "x59 x434c"}, {"x59 -", "x58 -"}, {"x4e ", "x50 "}, {"x4e ", "x434c "}, {"x4e ", "x434f4d4d4f4e2d4c495350 "}, {"package x50 ", "package x "}, {"package x50 ", "package x434c "}, {hexed("COMMON-LISP") + "," + hexed("COMMON-LISP-USER") + " 0", hexed("COMMON-LISP") + "," + hexed("COMMON-LISP") + " 0"}, {hexed("COMMON-LISP") + "," + hexed("COMMON-LISP-USER") + " 0", hexed("KEYWORD") + " 0"}, {hexed("COMMON-LISP") + "," + hexed("COMMON-LISP-USER") + " 0", "x50 0"}, {hexed("COMMON-LISP") + "," + hexed("COMMON-LISP-USER") + " 0", "x434c 0"}, {hexed("COMMON-LISP") + "," + hexed("COMMON-LISP-USER") + " 0", hexed("NONE") + " 0"}, {"symbol x59", "symbol " + hexed(long)}, {"x4e ", hexed(long) + " "}, {"package x4b4559574f5244 -", "package x4b4559574f5244 x4b"}, {"x434c2d55534552 ", "- "}, {"x434c -", "- -"}, {"x434c2d55534552 ", "x434c2d55534552,x58 "},
	} {
		s := strings.Replace(clean, c[0], c[1], 1)
		if s == clean {
			panic(c[0])
		}
		l = append(l, s)
	}
	lines := strings.SplitAfter(clean, "\n")
	l = append(l, strings.Join(append([]string{lines[2]}, append(lines[:2:2], lines[3:]...)...), "")) // a package ahead of the symbols
	l = append(l, lines[0]+lines[1]+lines[3]+lines[2]+lines[4]+lines[5], lines[0]+lines[1]+lines[2]+lines[3]+lines[5]+lines[4], lines[0]+lines[1]+lines[2]+lines[3]+lines[4])
	// conflicts
	l = append(l, p("symbol X P\nsymbol X Q\n", "package P - - - 0 -\npackage Q - P 1 - -\n"), p("symbol X P\nsymbol X Q\n", "package P - - - 0 -\npackage Q - - - 1 -\npackage R - P,Q - - -\n"), p("symbol X P\nsymbol X Q\n", "package P - Q - 0 -\npackage Q - - - 1 -\n"), p("symbol X P\nsymbol X -\n", "package P - - 0,1 - -\n"), p("symbol X P\nsymbol X -\n", "package P - - 0 1 -\n"))
	// too many
	var many, packs strings.Builder
	for i := range 1001 {
		many.WriteString("symbol x" + strconv.Itoa(100000+i) + " -\n")
	}
	for i := range 48 {
		packs.WriteString("package x" + strconv.Itoa(10+i) + " - - - - -\n")
	}
	return append(l, p(many.String(), ""), p("", packs.String()))
}

func TestMostPackages(t *testing.T) {
	var l strings.Builder
	for i := range 47 {
		l.WriteString("package x" + strconv.Itoa(10+i) + " - - - - -\n")
	}
	x, e := symbols.Parse(p("", l.String()))
	if e != api.OK || len(x.Packages()) != 50 {
		t.Errorf("Parse of 50 packages: %v", e)
	}
}

// Texts that are changed somewhere are those of no table, or of another one.
func TestChangedTexts(t *testing.T) {
	clean := p("symbol X P\nsymbol Y -\nsymbol Z Q\n", "package P N CL:,USER 0 1 0,1\npackage Q - P - 2 -\n")
	if _, e := symbols.Parse(clean); e != api.OK {
		t.Fatal(e)
	}
	r := rand.New(rand.NewSource(106))
	for range 20000 {
		b := []byte(clean)
		for range 1 + r.Intn(2) {
			i := r.Intn(len(b))
			switch r.Intn(3) {
			case 0:
				b[i] = "0129x-, \n5ap"[r.Intn(12)]
			case 1:
				b = append(b[:i], b[i+1:]...)
			default:
				b = append(b[:i], append([]byte{b[i]}, b[i:]...)...)
			}
		}
		x, e := symbols.Parse(string(b))
		if e == api.OK && x.Text() != string(b) || e != api.OK && (e != api.ErrForm || x != nil) {
			t.Fatalf("Parse: %v\n%s", e, b)
		}
	}
}
