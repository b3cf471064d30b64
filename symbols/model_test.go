package symbols_test

import (
	"math/rand"
	"slices"
	"testing"

	"commonform/api"
	"commonform/symbols"
)

// A pair is a table and its model, on which the same is done.
type pair struct {
	t    *testing.T
	s    *symbols.Table
	m    *model
	r    *rand.Rand
	seen map[string]int // the codes of functions
}

func (x *pair) pick(l ...string) string {
	return l[x.r.Intn(len(l))]
}

func (x *pair) pack() string {
	if x.r.Intn(4) > 0 {
		return x.pick("P", "Q", "R")
	}
	return x.pick("COMMON-LISP", "CL", "KEYWORD", "CL-USER", "COMMON-LISP-USER", "NP", "?")
}

func (x *pair) name() string {
	return x.pick("X", "X", "X", "Y", "", "\xff")
}

// target returns a package and a symbol, which is often accessible there.
func (x *pair) target() (string, int) {
	pack := x.pack()
	if p := x.m.find(pack); p != nil && x.r.Intn(3) > 0 {
		if n, _ := x.m.accessible(p, x.name()); n >= 0 {
			return pack, n
		}
	}
	return pack, x.r.Intn(len(x.m.names)+2) - 1
}

// refuse returns the errors that come ahead of others.
func (m *model) refuse(pack string, n int) api.Errno {
	if m.find(pack) == nil {
		return api.ErrNone
	}
	if n < 0 || n >= len(m.names) {
		return api.ErrNone
	}
	return api.OK
}

func (m *model) make(p *pack, name string, external bool) int {
	m.names = append(m.names, name)
	home := ""
	if p != nil {
		home = p.name
		set := p.internal
		if external {
			set = p.external
		}
		set[len(m.names)-1] = true
	}
	m.homes = append(m.homes, home)
	return len(m.names) - 1
}

func (x *pair) intern() {
	pack, name := x.pack(), x.name()
	n, status, e := x.s.Intern(pack, name)
	p := x.m.find(pack)
	if p == nil {
		x.same("Intern", e, api.ErrNone)
		return
	}
	want, as := x.m.accessible(p, name)
	if as == symbols.None {
		want = x.m.make(p, name, p.name == "KEYWORD")
	}
	if n != want || status != as {
		x.t.Fatalf("Intern(%q, %q) = %d, %d; expected %d, %d", pack, name, n, status, want, as)
	}
	x.same("Intern", e, api.OK)
}

func (x *pair) same(what string, got, want api.Errno) {
	x.t.Helper()
	x.seen[what+" "+got.Error()]++
	if got != want {
		x.t.Fatalf("%s: %v; expected %v, behind\n%s", what, got, want, x.m.text())
	}
}

func (x *pair) export() {
	pack, n := x.target()
	want := x.m.refuse(pack, n)
	if want == api.OK {
		p := x.m.find(pack)
		if k, _ := x.m.accessible(p, x.m.names[n]); k != n {
			want = symbols.ErrAccess
		} else {
			want = x.m.try(func(m *model) {
				p := m.find(pack)
				delete(p.internal, n)
				p.external[n] = true
			})
		}
	}
	x.same("Export", x.s.Export(pack, n), want)
}

func (x *pair) unexport() {
	pack, n := x.target()
	want := x.m.refuse(pack, n)
	if want == api.OK {
		p := x.m.find(pack)
		k, _ := x.m.accessible(p, x.m.names[n])
		switch {
		case k != n:
			want = symbols.ErrAccess
		case p.name == "KEYWORD":
			want = api.ErrArg
		case p.external[n]:
			delete(p.external, n)
			p.internal[n] = true
		}
	}
	x.same("Unexport", x.s.Unexport(pack, n), want)
}

func (x *pair) importing() {
	pack, n := x.target()
	want := x.m.refuse(pack, n)
	if want == api.OK {
		p := x.m.find(pack)
		k, status := x.m.accessible(p, x.m.names[n])
		switch {
		case k >= 0 && k != n:
			want = symbols.ErrClash
		case status == symbols.None || status == symbols.Inherited:
			p.internal[n] = true
			if x.m.homes[n] == "" {
				x.m.homes[n] = p.name
			}
		}
	}
	x.same("Import", x.s.Import(pack, n), want)
}

func (x *pair) shadow() {
	pack, name := x.pack(), x.name()
	want := api.ErrNone
	if p := x.m.find(pack); p != nil {
		want = api.OK
		n, _ := x.m.meanings(p, name)
		if n < 0 {
			n = x.m.make(p, name, false)
		}
		p.shadowing[n] = true
	}
	x.same("Shadow", x.s.Shadow(pack, name), want)
}

func (m *model) unintern(p *pack, n int) {
	delete(p.internal, n)
	delete(p.external, n)
	delete(p.shadowing, n)
	if m.homes[n] == p.name {
		m.homes[n] = ""
	}
}

func (x *pair) shadowingImport() {
	pack, n := x.target()
	want := x.m.refuse(pack, n)
	if want == api.OK {
		p := x.m.find(pack)
		k, _ := x.m.meanings(p, x.m.names[n])
		if k >= 0 && k != n {
			x.m.unintern(p, k)
		}
		if !p.external[n] {
			p.internal[n] = true
		}
		p.shadowing[n] = true
	}
	x.same("ShadowingImport", x.s.ShadowingImport(pack, n), want)
}

func (x *pair) unintern() {
	pack, n := x.target()
	want, is := x.m.refuse(pack, n), false
	if want == api.OK {
		if p := x.m.find(pack); p.internal[n] || p.external[n] {
			want = x.m.try(func(m *model) { m.unintern(m.find(pack), n) })
			is = want == api.OK
		}
	}
	got, e := x.s.Unintern(pack, n)
	x.same("Unintern", e, want)
	if got != is {
		x.t.Fatalf("Unintern(%q, %d) = %v", pack, n, got)
	}
}

func (x *pair) use() {
	pack, other := x.pack(), x.pack()
	want := api.ErrNone
	p, q := x.m.find(pack), x.m.find(other)
	switch {
	case p == nil || q == nil:
	case p == q || q.name == "KEYWORD":
		want = api.ErrArg
	case slices.Contains(p.uses, q.name):
		want = api.OK
	default:
		want = x.m.try(func(m *model) {
			p := m.find(pack)
			p.uses = append(p.uses, q.name)
		})
	}
	x.same("Use", x.s.Use(pack, other), want)
}

func (x *pair) unuse() {
	pack, other := x.pack(), x.pack()
	want := api.ErrNone
	if p, q := x.m.find(pack), x.m.find(other); p != nil && q != nil {
		want = api.OK
		p.uses = slices.DeleteFunc(p.uses, func(name string) bool { return name == q.name })
	}
	x.same("Unuse", x.s.Unuse(pack, other), want)
}

func (x *pair) fresh() {
	name := x.name()
	want := x.m.make(nil, name, false)
	n, e := x.s.Fresh(name)
	x.same("Fresh", e, api.OK)
	if n != want {
		x.t.Fatalf("Fresh = %d; expected %d", n, want)
	}
}

func (x *pair) making() {
	name := x.pick("P", "Q", "R", "NP", "S", "T", "U")
	var nicks, uses []string
	if name == "P" && x.r.Intn(2) == 0 {
		nicks = []string{"NP"}
	}
	for range x.r.Intn(3) {
		uses = append(uses, x.pick("CL", "P", "Q", "R"))
	}
	want := api.OK
	for _, s := range append([]string{name}, nicks...) {
		if x.m.find(s) != nil {
			want = api.ErrTwice
		}
	}
	var full []string
	for _, s := range uses {
		p := x.m.find(s)
		switch {
		case want != api.OK:
		case p == nil:
			want = api.ErrNone
		case slices.Contains(full, p.name):
			want = api.ErrTwice
		default:
			full = append(full, p.name)
		}
	}
	if want == api.OK {
		want = x.m.try(func(m *model) { m.add(name, nicks, full) })
	}
	x.same("Make", x.s.Make(name, nicks, uses), want)
}

func (x *pair) deleting() {
	name := x.pick("P", "Q", "R", "NP", "S", "T", "U", "S", "T", "U", "CL", "KEYWORD")
	p := x.m.find(name)
	want := api.ErrNone
	switch {
	case p == nil:
	case slices.Contains(x.m.packs[:3], p):
		want = api.ErrArg
	case slices.ContainsFunc(x.m.packs, func(q *pack) bool { return slices.Contains(q.uses, p.name) }):
		want = symbols.ErrUsed
	default:
		want = api.OK
		for n, home := range x.m.homes {
			if home == p.name {
				x.m.homes[n] = ""
			}
		}
		x.m.packs = slices.DeleteFunc(x.m.packs, func(q *pack) bool { return q == p })
	}
	x.same("Delete", x.s.Delete(name), want)
}

// P10.1, P10.2, P10.3, P10.5 and P10.6
func TestAsTheModel(t *testing.T) {
	r := rand.New(rand.NewSource(10))
	seen := map[string]int{}
	for range 300 {
		x := &pair{t, symbols.New(), newModel(), r, seen}
		steps := []func(){x.intern, x.intern, x.intern, x.export, x.export, x.export, x.export, x.unexport, x.importing, x.shadow, x.shadow, x.shadowingImport, x.unintern, x.use, x.use, x.use, x.unuse, x.fresh, x.making, x.making, x.deleting}
		for _, name := range []string{"P", "Q", "R"} {
			x.same("Make", x.s.Make(name, nil, nil), api.OK)
			x.m.add(name, nil, nil)
		}
		for range 120 {
			before := x.m.text()
			steps[r.Intn(len(steps))]()
			text := x.s.Text()
			if want := x.m.text(); text != want {
				t.Fatalf("the table is\n%s; expected\n%s, behind\n%s", text, want, before)
			}
			if x.m.hasConflict() {
				t.Fatalf("a conflict:\n%s", text)
			}
			y, e := symbols.Parse(text)
			if e != api.OK || y.Text() != text {
				t.Fatalf("Parse of\n%s: %v", text, e)
			}
			if r.Intn(10) == 0 {
				x.s = y
			}
			x.look()
		}
	}
	for _, what := range []string{"Intern 0", "Intern 5", "Export 0", "Export 120", "Export 122", "Unexport 0", "Unexport 1", "Unexport 122", "Import 0", "Import 120", "Shadow 0", "ShadowingImport 0", "Unintern 0", "Unintern 120", "Use 0", "Use 1", "Use 5", "Use 120", "Unuse 0", "Make 0", "Make 5", "Make 8", "Make 120", "Delete 0", "Delete 1", "Delete 121"} {
		if seen[what] < 3 {
			t.Errorf("%s came %d times", what, seen[what])
		}
	}
}

// look compares what a table tells with the model.
func (x *pair) look() {
	name := x.name()
	for i, p := range x.m.packs {
		n, status, e := x.s.Find(p.name, name)
		if want, as := x.m.accessible(p, name); n != want || status != as || e != api.OK {
			x.t.Fatalf("Find(%q, %q) = %d, %d, %v; expected %d, %d", p.name, name, n, status, e, want, as)
		}
		if got := x.s.Packages(); len(got) != len(x.m.packs) || got[i] != p.name {
			x.t.Fatalf("Packages = %v", got)
		}
		y, e := x.s.Package(p.name)
		var users []string
		for _, q := range x.m.packs {
			if slices.Contains(q.uses, p.name) {
				users = append(users, q.name)
			}
		}
		if e != api.OK || y.Name != p.name || !slices.Equal(y.Nicknames, p.nicks) || !slices.Equal(y.Uses, p.uses) || !slices.Equal(y.UsedBy, users) || !sameSet(y.Internal, p.internal) || !sameSet(y.External, p.external) || !sameSet(y.Shadowing, p.shadowing) {
			x.t.Fatalf("Package(%q) = %v, %v", p.name, y, e)
		}
		for _, nick := range p.nicks {
			if z, _ := x.s.Package(nick); z.Name != p.name {
				x.t.Fatalf("Package(%q) = %v", nick, z)
			}
		}
	}
	for n, want := range x.m.names {
		if name, home, e := x.s.Symbol(n); name != want || home != x.m.homes[n] || e != api.OK {
			x.t.Fatalf("Symbol(%d) = %q, %q, %v", n, name, home, e)
		}
	}
}

func sameSet(l []int, set map[int]bool) bool {
	return len(l) == len(set) && slices.IsSorted(l) && !slices.ContainsFunc(l, func(n int) bool { return !set[n] })
}
