package pretty_test

import (
	"math/rand"
	"strings"
	"testing"
	"unicode/utf8"

	"commonform/api"
	"commonform/pretty"
	"commonform/printer"
	"commonform/reader"
)

func text(s string) pretty.Op { return pretty.Op{Kind: pretty.Text, Text: s} }

func open(s string) pretty.Op { return pretty.Op{Kind: pretty.Open, Text: s} }

func lineOpen(s string) pretty.Op { return pretty.Op{Kind: pretty.Open, Text: s, Flag: true} }

func end(s string) pretty.Op { return pretty.Op{Kind: pretty.Close, Text: s} }

func newline(kind int) pretty.Op { return pretty.Op{Kind: pretty.Newline, N: kind} }

func indent(n int, fromHere bool) pretty.Op {
	return pretty.Op{Kind: pretty.Indent, N: n, Flag: fromHere}
}

func tab(n, m int, fromHere bool) pretty.Op {
	return pretty.Op{Kind: pretty.Tab, N: n, M: m, Flag: fromHere}
}

// words returns operations: `(` and `)` for a block, `;` for one with a prefix of each line, _ for a space; L, F, M and ! for newlines, < and > for an Indent of -1 and 2, @ for one of 0 from here, T for a Tab to the column 6 and on by 4, R for one of 1 from here to a multiple of 5; and other words for Texts.
func words(s string) []pretty.Op {
	var l []pretty.Op
	for _, word := range strings.Fields(s) {
		l = append(l, map[string]pretty.Op{"(": open("("), ")": end(")"), ";": lineOpen("; "), "_": text(" "), "L": newline(pretty.Linear), "F": newline(pretty.Fill), "M": newline(pretty.Miser), "!": newline(pretty.Mandatory), "<": indent(-1, false), ">": indent(2, false), "@": indent(0, true), "T": tab(6, 4, false), "R": tab(1, 5, true)}[word])
		if l[len(l)-1] == (pretty.Op{}) {
			l[len(l)-1] = text(word)
		}
	}
	return l
}

// random returns operations without an error; some have what is asked for.
func random(r *rand.Rand, longest int, hasBreaks, hasPrefixes bool) []pretty.Op {
	var l []pretty.Op
	depth := 0
	for range r.Intn(longest) {
		switch n := r.Intn(16); {
		case n < 2:
			l = append(l, pretty.Op{Kind: pretty.Open, Text: []string{"(", "", "#(", "é "}[r.Intn(4)], Flag: hasPrefixes && r.Intn(4) == 0})
			depth++
		case n < 4 && depth > 0:
			l = append(l, end([]string{")", "", "]] "}[r.Intn(3)]))
			depth--
		case n < 7:
			l = append(l, text(" "), newline(r.Intn(3)))
		case n == 7 && hasBreaks:
			l = append(l, newline(pretty.Mandatory))
		case n == 8 && hasBreaks:
			l = append(l, text("x\ny"))
		case n == 9:
			l = append(l, indent(r.Intn(12)-4, r.Intn(2) == 0))
		case n == 10:
			l = append(l, tab(r.Intn(9), r.Intn(6), r.Intn(2) == 0))
		default:
			l = append(l, text([]string{"a", "bb", "ccc", "dé", " ", "e ", ""}[r.Intn(7)]))
		}
	}
	for range depth {
		l = append(l, end(")"))
	}
	return l
}

func column(s string) int {
	return utf8.RuneCountInString(s[strings.LastIndex(s, "\n")+1:])
}

// spaces tells how many spaces a Tab makes, by looking for the column.
func spaces(x pretty.Op, at int) int {
	to := at
	switch {
	case x.Flag:
		for to = at + x.N; x.M > 0 && to%x.M != 0; {
			to++
		}
	case at < x.N:
		to = x.N
	case x.M > 0:
		for to = x.N; to <= at; {
			to += x.M
		}
	}
	return to - at
}

// A frame is a block of the oracle.
type frame struct {
	outer                     *frame
	prefix                    string
	each, long, miser         bool
	at, start, indentation    int
	begins                    int // where the last section began in the text
	fits                      bool
	firstLine, sectionHasLine int
}

// An oracle renders operations after the definitions, with the whole text at hand.
type oracle struct {
	l     []pretty.Op
	block []*frame // of each operation, as far as they are open
	paths [][]int  // of each operation: the indices of the Opens around it
	width int
	out   string
}

// pathsOf returns the Opens around each operation; those of a Close are those of its Open.
func pathsOf(l []pretty.Op) [][]int {
	var all [][]int
	var path []int
	for i, x := range l {
		if x.Kind == pretty.Close {
			path = path[:len(path)-1]
		}
		all = append(all, append([]int(nil), path...))
		if x.Kind == pretty.Open {
			path = append(path, i)
		}
	}
	return all
}

func isPrefix(a, b []int) bool {
	if len(a) > len(b) {
		return false
	}
	for i, x := range a {
		if x != b[i] {
			return false
		}
	}
	return true
}

// fits tells whether the section of the block with a path, from the operation i on, fits; of a nil path all operations are the section.
func (o *oracle) fits(i int, path []int, all bool, at int) bool {
	s := strings.Repeat("x", at)
	for ; i < len(o.l); i++ {
		x := o.l[i]
		switch x.Kind {
		case pretty.Newline:
			if !all && isPrefix(o.paths[i], path) {
				return utf8.RuneCountInString(s) <= o.width
			}
			if x.N == pretty.Mandatory {
				return false
			}
		case pretty.Tab:
			s += strings.Repeat(" ", spaces(x, utf8.RuneCountInString(s)))
		case pretty.Text, pretty.Open, pretty.Close:
			s += x.Text
		}
		if strings.Contains(s, "\n") {
			return false
		}
	}
	return utf8.RuneCountInString(s) <= o.width
}

// rendered tells what Render has to return for operations without an error.
func rendered(l []pretty.Op, width, miser int) string {
	o := &oracle{l: l, paths: pathsOf(l), width: width}
	b := &frame{long: !o.fits(0, nil, true, 0), miser: width <= miser, fits: o.fits(0, nil, false, 0)}
	for i, x := range l {
		switch x.Kind {
		case pretty.Text:
			o.out += x.Text
		case pretty.Tab:
			o.out += strings.Repeat(" ", spaces(x, column(o.out)))
		case pretty.Open:
			at := column(o.out)
			o.out += x.Text
			start := column(o.out)
			b = &frame{outer: b, prefix: x.Text, each: x.Flag, long: !b.fits, miser: width-start <= miser, at: at, start: start, indentation: start, begins: len(o.out)}
			b.fits = o.fits(i+1, append(append([]int(nil), o.paths[i]...), i), false, start)
		case pretty.Close:
			o.out += x.Text
			b = b.outer
		case pretty.Indent:
			if !b.miser {
				b.indentation = max(0, b.start+x.N)
				if x.Flag {
					b.indentation = max(0, column(o.out)+x.N)
				}
			}
		case pretty.Newline:
			if o.breaks(i, b) {
				o.breakLine(b)
			}
			b.begins = len(o.out)
			b.fits = o.fits(i+1, o.paths[i], false, column(o.out))
		}
	}
	return o.out
}

func (o *oracle) breaks(i int, b *frame) bool {
	switch o.l[i].N {
	case pretty.Linear:
		return b.long
	case pretty.Miser:
		return b.long && b.miser
	case pretty.Fill:
		return !o.fits(i+1, o.paths[i], false, column(o.out)) || strings.Contains(o.out[b.begins:], "\n") || b.long && b.miser
	}
	return true
}

func (o *oracle) breakLine(b *frame) {
	cut := strings.TrimRight(o.out, " ")
	for c := b; c != nil; c = c.outer {
		// What was cut away was ahead of the line's end anyway.
		c.begins = min(c.begins, len(cut))
	}
	o.out = cut + "\n"
	fill := func(to int) {
		if n := to - column(o.out); n > 0 {
			o.out += strings.Repeat(" ", n)
		}
	}
	var all []*frame
	for c := b; c != nil; c = c.outer {
		all = append([]*frame{c}, all...)
	}
	for _, c := range all {
		if c.each {
			fill(c.at)
			o.out += c.prefix
		}
	}
	fill(b.indentation)
}

// read returns the form of a text; symbols of P whose names these are become those of COMMON-LISP.
func read(t *testing.T, s string) api.Form {
	t.Helper()
	r, at, e := reader.One(reader.Standard("P"), s)
	if e != api.OK {
		t.Fatalf("One(%q): %d, %v", s, at, e)
	}
	return common(r.Form)
}

func common(f api.Form) api.Form {
	if f.Kind == api.FormSymbol && f.Home == "P" && strings.Contains(" NIL QUOTE FUNCTION LIST DEFUN LET LET* PROGN COND IF LAMBDA WHEN ", " "+f.Text+" ") {
		f.Home = "COMMON-LISP"
	}
	for i, k := range f.Kids {
		f.Kids[i] = common(k)
	}
	return f
}

// usual are the options with which most forms here are laid out.
func usual() printer.Options {
	o := printer.Standard("P")
	o.Uses = []string{"COMMON-LISP"}
	return o
}
