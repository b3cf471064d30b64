package format_test

import (
	"math/rand"
	"strings"
	"testing"

	"commonform/api"
	"commonform/format"
	"commonform/printer"
)

var pieces = []string{
	"a", "bC", " ", "\n", "é", "~A", "~S", "~D", "~5D", "~:D", "~R", "~@R", "~8R", "~C", "~F", "~,2F", "~$", "~P", "~:P", "~%", "~2%", "~&", "~~", "~|", "~\n ", "~T", "~9T", "~3,4T", "~2,3@T", "~*", "~:*", "~@*", "~1@*", "~?", "~@?", "~(", "~:(", "~@(", "~:@(", "~)", "~[", "~:[", "~@[", "~#[", "~1[", "~]", "~;", "~:;", "~{", "~:{", "~@{", "~:@{", "~2{", "~}", "~:}", "~<", "~9<", "~:<", "~@<", "~>", "~^", "~:^", "~0^", "~#^", "~1,2^", "~vA", "~v,vA", "~,,2A", "~'xA", "~#A", "~,D", "~", "~5", "~Q", "~1001A", "~-1A",
}

const pool = `1 0 -7 12345 1/2 1.5 -0.0 2.5d0 #C(1 2) #\a #\Space "a" "b~Ac" "~A~^,~A" "~:^" "~" "" nil nil t foo :k (1) (1 2) (1 2 3) ((1) (2 3)) (nil nil) ((1 . 2)) (1 . 2) #(1 2) #*01 ("~A" (1)) (0 1) #1=(a . #1#)`

// A maker makes control strings, most of them without an error.
type maker struct {
	r *rand.Rand
}

func (m maker) wild() string {
	b := strings.Builder{}
	for range m.r.Intn(8) {
		b.WriteString(pieces[m.r.Intn(len(pieces))])
	}
	return b.String()
}

func (m maker) tame(depth int) string {
	b := strings.Builder{}
	for range 1 + m.r.Intn(4) {
		if depth < 3 && m.r.Intn(3) == 0 {
			b.WriteString(m.bracket(depth + 1))
			continue
		}
		piece := pieces[m.r.Intn(len(pieces))]
		if format.Check(piece) == api.OK {
			b.WriteString(piece)
		}
	}
	return b.String()
}

func (m maker) bracket(depth int) string {
	pick := func(l ...string) string { return l[m.r.Intn(len(l))] }
	switch m.r.Intn(7) {
	case 0:
		return pick("~(", "~:(", "~@(", "~:@(") + m.tame(depth) + "~)"
	case 1:
		return pick("~[", "~#[", "~1[") + m.tame(depth) + "~;" + m.tame(depth) + pick("~;", "~:;") + m.tame(depth) + "~]"
	case 2:
		return "~:[" + m.tame(depth) + "~;" + m.tame(depth) + "~]"
	case 3:
		return "~@[" + m.tame(depth) + "~]"
	case 4:
		return pick("~<", "~9<", "~:<", "~@<", "~20:@<") + m.tame(depth) + "~;" + m.tame(depth) + "~>"
	case 5:
		return pick("~:{", "~:@{", "~1:{") + m.tame(depth) + pick("~:^", "~1:^", "") + m.tame(depth) + pick("~}", "~:}")
	}
	return pick("~{", "~@{", "~2{") + m.tame(depth) + pick("~}", "~:}")
}

func (m maker) control() string {
	if m.r.Intn(3) == 0 {
		return m.wild()
	}
	return m.tame(0)
}

// randomly calls do with control strings and arguments.
func randomly(t *testing.T, n int, do func(m maker, control string, args []api.Form)) {
	m := maker{rand.New(rand.NewSource(13))}
	all := read(t, pool)
	for range n {
		var args []api.Form
		for range m.r.Intn(7) {
			args = append(args, all[m.r.Intn(len(all))])
		}
		do(m, m.control(), args)
	}
}

// P1: whatever comes in, Format ends, with one of its errors, and then without an output; and Check tells those of the control string.
func TestAnything(t *testing.T) {
	seen := map[api.Errno]int{}
	randomly(t, 60000, func(_ maker, control string, args []api.Form) {
		out, e := format.Format(control, args)
		again, d := format.Format(control, args)
		seen[e]++
		if out != again || e != d || e != api.OK && out != "" || len(out) > api.MaxOutput {
			t.Fatalf("%q: %q, %v, and %q, %v", control, out, e, again, d)
		}
		if c := format.Check(control); c != api.OK && c != e {
			t.Fatalf("%q: Check %v, Format %v", control, c, e)
		}
		switch e {
		case api.OK, api.ErrForm, api.ErrRange, api.ErrNone, api.ErrType, api.ErrFull:
		default:
			t.Fatalf("%q: %v", control, e)
		}
	})
	for _, e := range []api.Errno{api.OK, api.ErrForm, api.ErrRange, api.ErrNone, api.ErrType, api.ErrFull} {
		if seen[e] < 20 {
			t.Errorf("the result %v was met %d times", e, seen[e])
		}
	}
}

// P13.3: a text is its own output, and two control strings, one behind the other, go on with arguments and column.
func TestTexts(t *testing.T) {
	for _, s := range []string{"", "plain", "a\nb\tc", "é\xff\x00", "(;)[,]{:}<@>^#v'"} {
		made(t, s, nil, s, api.OK)
		made(t, s, []api.Form{num(1)}, s, api.OK)
	}
	n := 0
	randomly(t, 60000, func(m maker, first string, args []api.Form) {
		second := m.tame(0)
		// What looks at the number of arguments, at those ahead, or at the text behind, is left out.
		if strings.ContainsAny(first+second, "^#*") || strings.Contains(second, ":P") || strings.HasSuffix(first, "~\n ") || strings.Contains(first, "@?") {
			return
		}
		whole, e := format.Format(first, args)
		line := whole[strings.LastIndexByte(whole, '\n')+1:]
		if e != api.OK || strings.Contains(line, "~") {
			return
		}
		used := 0
		for {
			if _, e := format.Format(first, args[:used]); e == api.OK {
				break
			}
			used++
		}
		alone, e := format.Format(line+second, args[used:])
		if e != api.OK || strings.Contains(first, "@{") || strings.Contains(first, "@[") {
			return
		}
		both, e := format.Format(first+second, args)
		if want := whole + alone[len(line):]; e != api.OK || both != want {
			t.Fatalf("%q and %q: %q, %v; expected %q", first, second, both, e, want)
		}
		n++
	})
	if n < 2000 {
		t.Errorf("only %d pairs were tried", n)
	}
}

// P13.5: ~{~A~} of a list is the texts of its elements.
func TestLists(t *testing.T) {
	r := rand.New(rand.NewSource(135))
	all := read(t, pool)
	for range 500 {
		var l []api.Form
		want := ""
		for range r.Intn(6) {
			x := all[r.Intn(len(all))]
			if x.Kind == api.FormLabel {
				continue
			}
			text, _ := printer.Text(x, false)
			want += text
			l = append(l, x)
		}
		made(t, "~{~A~}", []api.Form{list(l...)}, want, api.OK)
		made(t, "~@{~A~}", l, want, api.OK)
		made(t, strings.Repeat("~A", len(l)), l, want, api.OK)
	}
}

// No argument is changed.
func TestMemory(t *testing.T) {
	args := read(t, `("~A" (1 2)) (1 2 (3)) "x"`)
	before, _ := printer.Text(list(args...), true)
	made(t, "~{~?~}~{~A~^~*~}~@?", args, "11(3)x", api.OK)
	if after, _ := printer.Text(list(args...), true); after != before {
		t.Errorf("the arguments are %s now", after)
	}
}
