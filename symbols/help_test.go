package symbols_test

import (
	"encoding/hex"
	"maps"
	"slices"
	"strconv"
	"strings"
	"testing"

	"commonform/api"
	"commonform/symbols"
)

// A model keeps what a table has to keep, and finds conflicts by looking at all that is accessible.
type model struct {
	names []string // of symbols
	homes []string
	packs []*pack
}

type pack struct {
	name      string
	nicks     []string
	uses      []string
	internal  map[int]bool
	external  map[int]bool
	shadowing map[int]bool
}

func newModel() *model {
	m := &model{}
	m.add("COMMON-LISP", []string{"CL"}, nil)
	m.add("KEYWORD", nil, nil)
	m.add("COMMON-LISP-USER", []string{"CL-USER"}, []string{"COMMON-LISP"})
	return m
}

func (m *model) add(name string, nicks, uses []string) {
	m.packs = append(m.packs, &pack{name, slices.Clone(nicks), slices.Clone(uses), map[int]bool{}, map[int]bool{}, map[int]bool{}})
}

func (m *model) clone() *model {
	c := &model{names: slices.Clone(m.names), homes: slices.Clone(m.homes)}
	for _, p := range m.packs {
		c.packs = append(c.packs, &pack{p.name, slices.Clone(p.nicks), slices.Clone(p.uses), maps.Clone(p.internal), maps.Clone(p.external), maps.Clone(p.shadowing)})
	}
	return c
}

func (m *model) find(name string) *pack {
	for _, p := range m.packs {
		if p.name == name || slices.Contains(p.nicks, name) {
			return p
		}
	}
	return nil
}

// meanings returns the symbols that would be accessible in a package under a name: the present one, and those that are inherited.
func (m *model) meanings(p *pack, name string) (present int, inherited []int) {
	present = -1
	for n := range m.names {
		if m.names[n] == name && (p.internal[n] || p.external[n]) {
			present = n
		}
	}
	for _, other := range p.uses {
		for n := range m.names {
			if m.names[n] == name && m.find(other).external[n] && !slices.Contains(inherited, n) {
				inherited = append(inherited, n)
			}
		}
	}
	return present, inherited
}

// accessible returns a symbol and its status.
func (m *model) accessible(p *pack, name string) (int, int) {
	present, inherited := m.meanings(p, name)
	switch {
	case present >= 0 && p.external[present]:
		return present, symbols.External
	case present >= 0:
		return present, symbols.Internal
	case len(inherited) > 0:
		return inherited[0], symbols.Inherited
	}
	return -1, symbols.None
}

// hasConflict reports whether a name without a shadowing symbol has two meanings anywhere.
func (m *model) hasConflict() bool {
	for _, p := range m.packs {
		for _, name := range m.names {
			present, l := m.meanings(p, name)
			if present >= 0 && p.shadowing[present] {
				continue
			}
			if present >= 0 && !slices.Contains(l, present) {
				l = append(l, present)
			}
			if len(l) > 1 {
				return true
			}
		}
	}
	return false
}

// try does something, unless it makes a conflict.
func (m *model) try(do func(m *model)) api.Errno {
	c := m.clone()
	do(c)
	if c.hasConflict() {
		return symbols.ErrClash
	}
	*m = *c
	return api.OK
}

func list[T any](l []T, write func(T) string) string {
	if len(l) == 0 {
		return "-"
	}
	var words []string
	for _, x := range l {
		words = append(words, write(x))
	}
	return strings.Join(words, ",")
}

func hexed(s string) string {
	return "x" + hex.EncodeToString([]byte(s))
}

// text writes the model as a table is written.
func (m *model) text() string {
	b := strings.Builder{}
	for n, name := range m.names {
		home := "-"
		if m.homes[n] != "" {
			home = hexed(m.homes[n])
		}
		b.WriteString("symbol " + hexed(name) + " " + home + "\n")
	}
	numbers := func(set map[int]bool) string { return list(slices.Sorted(maps.Keys(set)), strconv.Itoa) }
	for _, p := range m.packs {
		b.WriteString(strings.Join([]string{"package", hexed(p.name), list(p.nicks, hexed), list(p.uses, hexed), numbers(p.internal), numbers(p.external), numbers(p.shadowing)}, " ") + "\n")
	}
	return b.String()
}

// codes checks that a call returned what it should.
func is(t *testing.T, what string, got, want api.Errno) {
	t.Helper()
	if got != want {
		t.Fatalf("%s: %v; expected %v", what, got, want)
	}
}

// made returns a new table with packages, which are given by their names.
func made(t *testing.T, names ...string) *symbols.Table {
	t.Helper()
	s := symbols.New()
	for _, name := range names {
		is(t, "Make of "+name, s.Make(name, nil, nil), api.OK)
	}
	return s
}

// put interns a name in a package, and exports it, if this is wanted.
func put(t *testing.T, s *symbols.Table, pack, name string, external bool) int {
	t.Helper()
	n, _, e := s.Intern(pack, name)
	is(t, "Intern of "+name, e, api.OK)
	if external {
		is(t, "Export of "+name, s.Export(pack, n), api.OK)
	}
	return n
}

// finds checks what a name means in a package.
func finds(t *testing.T, s *symbols.Table, pack, name string, n, status int) {
	t.Helper()
	got, as, e := s.Find(pack, name)
	if got != n || as != status || e != api.OK {
		t.Errorf("Find(%q, %q) = %d, %d, %v; expected %d, %d", pack, name, got, as, e, n, status)
	}
}

var long = strings.Repeat("n", api.MaxName+1)
