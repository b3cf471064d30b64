package symbols

import (
	"maps"
	"slices"

	"commonform/api"
)

// Make makes a package.
func (t *Table) Make(name string, nicknames, uses []string) api.Errno {
	if e := t.check(slices.Concat([]string{name}, nicknames, uses)...); e != api.OK {
		return e
	}
	if name == "" {
		return api.ErrArg
	}
	if t.areTaken(append([]string{name}, nicknames...)) {
		return api.ErrTwice
	}
	used, e := t.findUsed(uses)
	switch {
	case e != api.OK:
		return e
	case t.hasConflict(&pack{uses: used}):
		return ErrClash
	case len(t.packages) >= maxPackages:
		return api.ErrFull
	}
	t.add(name, nicknames, used)
	return api.OK
}

// areTaken reports whether one of the names of a package is taken, or stands twice.
func (t *Table) areTaken(names []string) bool {
	met := map[string]bool{}
	for _, name := range names {
		_, is := t.names[name]
		if is || met[name] {
			return true
		}
		met[name] = true
	}
	return false
}

// findUsed returns the packages that a new one is to use.
func (t *Table) findUsed(names []string) ([]*pack, api.Errno) {
	var l []*pack
	for _, name := range names {
		p, some := t.names[name]
		switch {
		case !some:
			return nil, api.ErrNone
		case p.name == keyword:
			return nil, api.ErrArg
		case slices.Contains(l, p):
			return nil, api.ErrTwice
		}
		l = append(l, p)
	}
	return l, api.OK
}

// hasConflict reports whether a name has several meanings in a package.
func (t *Table) hasConflict(p *pack) bool {
	meanings := map[string]int{}
	maps.Copy(meanings, p.present)
	isOther := func(n int) bool {
		name := t.symbols[n].name
		first, some := meanings[name]
		if !some {
			meanings[name] = n
		}
		return some && first != n && !p.shadowing[first]
	}
	for _, other := range p.uses {
		for n := range other.external {
			if isOther(n) {
				return true
			}
		}
	}
	return false
}

// isAmbiguous reports whether a package inherits different symbols under a name.
func (p *pack) isAmbiguous(name string) bool {
	first := -1
	for n := range p.inherited(name) {
		if first >= 0 && n != first {
			return true
		}
		first = n
	}
	return false
}

// isFirst reports whether a package is one of the first three.
func (p *pack) isFirst() bool {
	return p.name == lisp || p.name == keyword || p.name == user
}

// users returns the packages that use one.
func (t *Table) users(p *pack) []*pack {
	var l []*pack
	for _, other := range t.packages {
		if slices.Contains(other.uses, p) {
			l = append(l, other)
		}
	}
	return l
}

// Delete takes a package away.
func (t *Table) Delete(name string) api.Errno {
	p, e := t.find(name)
	switch {
	case e != api.OK:
		return e
	case p.isFirst():
		return api.ErrArg
	case len(t.users(p)) > 0:
		return ErrUsed
	}
	for _, n := range p.present {
		if t.symbols[n].home == p.name {
			t.symbols[n].home = ""
		}
	}
	maps.DeleteFunc(t.names, func(_ string, x *pack) bool { return x == p })
	t.packages = slices.DeleteFunc(t.packages, func(x *pack) bool { return x == p })
	return api.OK
}

// Use makes a package use another one.
func (t *Table) Use(name, other string) api.Errno {
	p, q, e := t.findPair(name, other)
	switch {
	case e != api.OK:
		return e
	case p == q || q.name == keyword:
		return api.ErrArg
	case slices.Contains(p.uses, q):
		return api.OK
	}
	for x, n := range q.present {
		if q.external[n] && others(x, n)(p) {
			return ErrClash
		}
	}
	p.uses = append(p.uses, q)
	return api.OK
}

// Unuse ends it.
func (t *Table) Unuse(name, other string) api.Errno {
	p, q, e := t.findPair(name, other)
	if e != api.OK {
		return e
	}
	p.uses = slices.DeleteFunc(p.uses, func(x *pack) bool { return x == q })
	return api.OK
}

// findPair returns two packages.
func (t *Table) findPair(name, other string) (*pack, *pack, api.Errno) {
	p, e := t.find(name, other)
	if e != api.OK {
		return nil, nil, e
	}
	q, e := t.find(other)
	if e != api.OK {
		return nil, nil, e
	}
	return p, q, api.OK
}

// Packages returns the names of all packages.
func (t *Table) Packages() []string {
	if t.isNil() {
		return nil
	}
	return namesOf(t.packages)
}

func namesOf(l []*pack) []string {
	var names []string
	for _, p := range l {
		names = append(names, p.name)
	}
	return names
}

// Package returns what is known of a package.
func (t *Table) Package(name string) (Package, api.Errno) {
	p, e := t.find(name)
	if e != api.OK {
		return Package{}, e
	}
	return Package{
		Name:      p.name,
		Nicknames: slices.Clone(p.nicknames),
		Uses:      namesOf(p.uses),
		UsedBy:    namesOf(t.users(p)),
		Internal:  p.internals(),
		External:  slices.Sorted(maps.Keys(p.external)),
		Shadowing: slices.Sorted(maps.Keys(p.shadowing)),
	}, api.OK
}

// internals returns the numbers of the internal symbols of a package, ascending.
func (p *pack) internals() []int {
	var l []int
	for _, n := range p.present {
		if !p.external[n] {
			l = append(l, n)
		}
	}
	slices.Sort(l)
	return l
}
