package forms_test

import (
	"math/big"
	"math/rand"
	"regexp"
	"strconv"
	"strings"
	"testing"
	"unicode/utf8"

	"commonform/api"
	"commonform/forms"
)

var texts = []string{"", "", "0", "1", "-1", "-0", "01", "7", "999", "1000", "12", "1/2", "2/4", "-3/7", "0/3", "1/1", "3f800000", "7f800000", "3F800000", "3ff0000000000000", "a", "é", "ab", "x", "\xff", "01", "0110", "012", "2 1", "1 1", "0 3", "1 2 1", "2001 0", "1  1", "NIL", "P"}

// garbage returns a tree of any kinds and texts; some of them are right forms.
func garbage(r *rand.Rand, depth int) api.Form {
	f := api.Form{Kind: r.Intn(17) - 1, Text: texts[r.Intn(len(texts))]}
	if r.Intn(3) > 0 {
		f = randomForm(r.Int63(), r.Intn(6), true)
	}
	if f.Kind == api.FormSymbol || r.Intn(30) == 0 {
		f.Home = texts[r.Intn(len(texts))]
	}
	if depth < 4 && r.Intn(2) == 0 {
		f.Kids = nil
		for range r.Intn(4) {
			f.Kids = append(f.Kids, garbage(r, depth+1))
		}
	}
	return f
}

// errorOf returns the error of a small form, as the table of the chapter says it.
func errorOf(f api.Form) api.Errno {
	var all []api.Form
	var collect func(f api.Form)
	collect = func(f api.Form) {
		all = append(all, f)
		for _, k := range f.Kids {
			collect(k)
		}
	}
	collect(f)
	for _, x := range all {
		if !isAsTheTableSays(x) {
			return api.ErrForm
		}
	}
	seen := " "
	for _, x := range all {
		switch {
		case x.Kind == api.FormLabel && strings.Contains(seen, " "+x.Text+" "):
			return api.ErrTwice
		case x.Kind == api.FormLabel && (x.Kids[0].Kind == api.FormLabel || x.Kids[0].Kind == api.FormRef):
			return forms.ErrLabel
		case x.Kind == api.FormLabel:
			seen += x.Text + " "
		case x.Kind == api.FormRef && !strings.Contains(seen, " "+x.Text+" "):
			return forms.ErrLabel
		}
	}
	return api.OK
}

var (
	integers   = regexp.MustCompile(`^(0|-?[1-9][0-9]*)$`)
	ratios     = regexp.MustCompile(`^-?[1-9][0-9]*/[1-9][0-9]*$`)
	singles    = regexp.MustCompile(`^[0-9a-f]{8}$`)
	doubles    = regexp.MustCompile(`^[0-9a-f]{16}$`)
	bits       = regexp.MustCompile(`^[01]*$`)
	labels     = regexp.MustCompile(`^(0|[1-9][0-9]{0,2})$`)
	dimensions = regexp.MustCompile(`^((0|[1-9][0-9]{0,3})( (0|[1-9][0-9]{0,3})){1,6})?$`)
)

func isAsTheTableSays(x api.Form) bool {
	n := len(x.Kids)
	if !utf8.ValidString(x.Text) || !utf8.ValidString(x.Home) || x.Kind != api.FormSymbol && x.Home != "" {
		return false
	}
	switch x.Kind {
	case api.FormSymbol, api.FormString:
		return n == 0
	case api.FormInt:
		return n == 0 && integers.MatchString(x.Text)
	case api.FormRatio:
		z, ok := new(big.Rat).SetString(x.Text)
		return n == 0 && ratios.MatchString(x.Text) && ok && !z.IsInt() && z.String() == x.Text
	case api.FormSingle:
		return n == 0 && singles.MatchString(x.Text)
	case api.FormDouble:
		return n == 0 && doubles.MatchString(x.Text)
	case api.FormComplex:
		if n != 2 || x.Text != "" {
			return false
		}
		re, im := x.Kids[0].Kind, x.Kids[1].Kind
		exact := re == api.FormInt || re == api.FormRatio
		return re == im && (re == api.FormSingle || re == api.FormDouble) || exact && (im == api.FormRatio || im == api.FormInt && x.Kids[1].Text != "0")
	case api.FormChar:
		return n == 0 && utf8.RuneCountInString(x.Text) == 1
	case api.FormBits:
		return n == 0 && bits.MatchString(x.Text)
	case api.FormCons:
		return n >= 2 && x.Text == "" && x.Kids[n-1].Kind != api.FormCons
	case api.FormVector:
		return x.Text == ""
	case api.FormArray:
		return hasDimensions(x.Text, n)
	case api.FormLabel:
		return n == 1 && labels.MatchString(x.Text)
	case api.FormRef:
		return n == 0 && labels.MatchString(x.Text)
	}
	return false
}

func hasDimensions(text string, n int) bool {
	if !dimensions.MatchString(text) {
		return false
	}
	product := big.NewInt(1)
	for _, word := range strings.Fields(text) {
		d, _ := strconv.ParseInt(word, 10, 64)
		if d > 2000 {
			return false
		}
		product.Mul(product, big.NewInt(d))
	}
	return product.Cmp(big.NewInt(int64(n))) == 0
}

func TestAnyForm(t *testing.T) {
	r := rand.New(rand.NewSource(3))
	right := 0
	for range 20000 {
		f := garbage(r, 0)
		want := errorOf(f)
		if e := forms.Check(f); e != want {
			t.Fatalf("Check of %v: %v, expected %v", f, e, want)
		}
		if want == api.OK {
			right++
			continue
		}
		normal, e := forms.Normal(f)
		plain, d := forms.Plain(f)
		g, c := forms.Nodes(f)
		if e != want || d != want || c != want || !equal(normal, api.Form{}) || !equal(plain, api.Form{}) || len(g) > 0 {
			t.Fatalf("Normal, Plain and Nodes of %v: %v, %v, %v, expected %v", f, e, d, c, want)
		}
		if is, e := forms.Same(symbol("A"), f); is || e != want {
			t.Fatalf("Same with %v: %v", f, e)
		}
		l, tail := forms.Spread(f)
		if f.Kind != api.FormCons && (len(l) > 0 || !equal(tail, f)) {
			t.Fatalf("Spread of %v: %v, %v", f, l, tail)
		}
	}
	if right < 1000 || right > 19000 {
		t.Errorf("%d right forms", right)
	}
}

// Graphs of any nodes: most are wrong, and all functions say so.
func TestAnyGraph(t *testing.T) {
	r := rand.New(rand.NewSource(4))
	for range 5000 {
		g := randomGraph(r)
		i := r.Intn(len(g))
		switch r.Intn(6) {
		case 0:
			g[i].Kind = r.Intn(16) - 1
		case 1:
			g[i].Text = texts[r.Intn(len(texts))]
		case 2:
			g[i].Kids = append(g[i].Kids, r.Intn(len(g)+2)-1)
		case 3:
			if n := len(g[i].Kids); n > 0 {
				g[i].Kids[r.Intn(n)] = r.Intn(len(g)+2) - 1
			}
		case 4:
			g[i].Home = texts[r.Intn(len(texts))]
		default:
			g = append(g, g[i])
		}
		want := forms.CheckGraph(g)
		for call, e := range callAll(g, 0, len(g)-1) {
			if want != api.OK && e != want {
				t.Fatalf("%s of %v: %v, expected %v", call, g, e, want)
			}
			if want == api.OK && e != api.OK && !(call == "Cars" && e == api.ErrOrder) {
				t.Fatalf("%s of %v: %v", call, g, e)
			}
		}
		if isRightGraph(g) != (want == api.OK) {
			t.Fatalf("CheckGraph of %v: %v", g, want)
		}
	}
}

// isRightGraph tells what CheckGraph has to tell of a small graph.
func isRightGraph(g graph) bool {
	for _, n := range g {
		f := api.Form{Kind: n.Kind, Text: n.Text, Home: n.Home}
		for _, k := range n.Kids {
			if k < 0 || k >= len(g) {
				return false
			}
			f.Kids = append(f.Kids, api.Form{Kind: g[k].Kind, Text: g[k].Text})
		}
		if n.Kind == api.FormCons {
			f.Kids = append(f.Kids, symbol("NIL")) // a cdr may be a cons
		}
		if n.Kind >= api.FormLabel || n.Kind == api.FormCons && len(n.Kids) != 2 || !isAsTheTableSays(f) {
			return false
		}
	}
	for i, k := range reached(g, 0) {
		if i != k {
			return false
		}
	}
	return len(reached(g, 0)) == len(g) && haveOnePlace(g)
}

func haveOnePlace(g graph) bool {
	for i, n := range g {
		places := 0
		for k, m := range g {
			for _, kid := range m.Kids {
				if kid == i {
					places++
				}
			}
			if k < i && n.Kind == api.FormSymbol && m.Kind == n.Kind && m.Text == n.Text && m.Home == n.Home {
				return false
			}
		}
		isAtom := n.Kind == api.FormChar || n.Kind >= api.FormInt && n.Kind <= api.FormComplex
		if isAtom && places != 1 && !(i == 0 && places == 0) {
			return false
		}
	}
	return true
}
