package reader_test

import (
	"fmt"
	"math/rand"
	"slices"
	"strconv"
	"strings"
	"testing"

	"commonform/api"
	"commonform/reader"
	"commonform/token"
)

// show writes a form so that nothing of it is hidden: symbols with their homes (but those of P, and NIL), floats by their bits, lists with their tails, vectors as #[..], arrays with their dimensions, labels as 1=x and references as 1#.
func show(f api.Form) string {
	var kids []string
	for _, k := range f.Kids {
		kids = append(kids, show(k))
	}
	all := strings.Join(kids, " ")
	switch f.Kind {
	case api.FormSymbol:
		if f.Home == "COMMON-LISP" && f.Text == "NIL" {
			return "nil"
		}
		return strings.TrimPrefix(f.Home+":"+f.Text, "P:") + all
	case api.FormInt, api.FormRatio:
		return f.Home + f.Text + all
	case api.FormSingle, api.FormDouble:
		return f.Home + "$" + f.Text + all
	case api.FormComplex:
		return "#C[" + all + "]" + f.Text + f.Home
	case api.FormChar:
		return "\\" + f.Text + f.Home + all
	case api.FormString:
		return strconv.Quote(f.Text) + f.Home + all
	case api.FormBits:
		return "#*" + f.Text + f.Home + all
	case api.FormCons:
		last := len(kids) - 1
		if kids[last] == "nil" {
			return "(" + strings.Join(kids[:last], " ") + ")" + f.Text + f.Home
		}
		return "(" + strings.Join(kids[:last], " ") + " . " + kids[last] + ")" + f.Text + f.Home
	case api.FormVector:
		return "#[" + all + "]" + f.Text + f.Home
	case api.FormArray:
		return "#A<" + f.Text + ">[" + all + "]" + f.Home
	case api.FormLabel:
		return f.Text + "=" + all + f.Home
	case api.FormRef:
		return f.Text + "#" + f.Home + all
	}
	return fmt.Sprint(f)
}

// showAll writes forms, one behind the other.
func showAll(l []reader.Result) string {
	var words []string
	for _, x := range l {
		words = append(words, show(x.Form))
	}
	return strings.Join(words, " ")
}

// names writes references: with one or two markers, and their places, if these are wanted.
func names(l []reader.Reference, places bool) string {
	var words []string
	for _, x := range l {
		mark := "::"
		if x.External {
			mark = ":"
		}
		word := x.Home + mark + x.Name
		if places {
			word += "@" + strconv.Itoa(x.At)
		}
		words = append(words, word)
	}
	return strings.Join(words, " ")
}

func isZero(x reader.Result) bool {
	return show(x.Form) == show(api.Form{}) && len(x.References) == 0 && x.From == 0 && x.To == 0
}

func equal(a, b api.Form) bool {
	return a.Kind == b.Kind && a.Text == b.Text && a.Home == b.Home && slices.EqualFunc(a.Kids, b.Kids, equal)
}

// options are those in which P is the package, and SMALL and ROUND are features.
func options() reader.Options {
	o := reader.Standard("P")
	o.Features = []string{"SMALL", "ROUND"}
	return o
}

// with returns options in whose readtable characters are of other kinds: pairs of a character and the digit of a kind.
func with(t *testing.T, pairs string) reader.Options {
	t.Helper()
	o := options()
	l := []rune(pairs)
	for i := 0; i < len(l); i += 2 {
		x, e := token.Set(o.Table, l[i], int(l[i+1]-'0'))
		if e != api.OK {
			t.Fatalf("Set of %q: %v", l[i], e)
		}
		o.Table = x
	}
	return o
}

// A maker makes texts of right forms, as tokens between which blanks may stand.
type maker struct {
	r      *rand.Rand
	labels int
	open   []int // the labels to which may be referred
}

func (m *maker) pick(l ...string) []string {
	return []string{l[m.r.Intn(len(l))]}
}

func (m *maker) some(depth int) []string {
	var l []string
	for range m.r.Intn(4) {
		l = append(l, m.form(depth+1)...)
	}
	return l
}

// form returns the tokens of a form that is read with options.
func (m *maker) form(depth int) []string {
	if depth > 4 || m.r.Intn(3) == 0 {
		return m.atom()
	}
	switch m.r.Intn(11) {
	case 0, 1, 2:
		return slices.Concat([]string{"("}, m.some(depth), []string{")"})
	case 3:
		return slices.Concat([]string{"("}, m.form(depth+1), m.some(depth), []string{"."}, m.form(depth+1), []string{")"})
	case 4:
		return slices.Concat(m.pick("#(", "#("), m.some(depth), []string{")"})
	case 5:
		return append(m.pick("'", "#'"), m.form(depth+1)...)
	case 6:
		return slices.Concat([]string{"`", "(", ","}, m.form(depth+1), []string{",@"}, m.form(depth+1), []string{")"})
	case 7:
		m.labels++
		n := m.labels
		l := []string{"#" + strconv.Itoa(n) + "=", "("}
		m.open = append(m.open, n)
		return slices.Concat(l, m.some(depth), []string{")"})
	case 8:
		return slices.Concat(m.pick("#+small", "#-(or big (not round))", "#+(and small :round)"), m.form(depth+1))
	case 9:
		before := *m
		left := slices.Concat(m.pick("#-small", "#+big"), m.form(depth+1))
		m.open = before.open
		return append(left, m.form(depth+1)...)
	}
	return m.pick("#2a((a b) (c 1))", "#0a x", "#c(1 2)", "#3(a b)", "#1a\"ab\"")
}

func (m *maker) atom() []string {
	if n := len(m.open); n > 0 && m.r.Intn(3) == 0 {
		return []string{"#" + strconv.Itoa(m.open[m.r.Intn(n)]) + "#"}
	}
	return m.pick("a", "b", "foo-bar", "|x y|", "q:x", "q::y", ":k", "#:g", "1", "-17", "1/2", "1.5", "1d3", "\"s\\\"t\"", "#\\a", "#\\Space", "#\\)", "#*101", "#4*10", "#xff", "#b-101", "#7r12", "()", "nil", "日本", "a\\(b", "1+", "..a", "|;|")
}

// texts calls do with the tokens of right forms, in several sizes.
func texts(n int, do func(r *rand.Rand, tokens []string)) {
	r := rand.New(rand.NewSource(7))
	for range n {
		m := &maker{r: r}
		do(r, m.form(0))
	}
}

// garbage returns a text of characters that mean something to the reader.
func garbage(r *rand.Rand, longest int) string {
	parts := []string{"a", "b", "A", "1", "0", "2", "7", "(", "(", ")", ")", ".", " ", " ", "\n", "'", "`", ",", ",@", "#", "#(", "#\\", "#*", "#:", "#x", "#c", "#a", "#2a", "#|", "|#", "#+", "#-", "#1=", "#1#", "|", "\\", "\"", ";", ":", "/", "e", "é", "\x01", "$", "small", "#3(", "#'", "\U0001F600"}
	b := strings.Builder{}
	for range r.Intn(longest + 1) {
		b.WriteString(parts[r.Intn(len(parts))])
	}
	return b.String()
}
