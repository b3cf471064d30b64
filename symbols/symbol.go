package symbols

import "commonform/api"

// Intern returns the symbol with a name, and makes one if there is none.
func (t *Table) Intern(pack, name string) (symbol, status int, e api.Errno) {
	p, e := t.find(pack, name)
	if e != api.OK {
		return 0, None, e
	}
	if n, status := p.accessible(name); status != None {
		return n, status, api.OK
	}
	n, e := t.makeIn(p, name)
	if e != api.OK {
		return 0, None, e
	}
	if p.name == keyword {
		p.external[n] = true
	}
	return n, None, api.OK
}

// Find returns the accessible symbol with a name.
func (t *Table) Find(pack, name string) (symbol, status int, e api.Errno) {
	p, e := t.find(pack, name)
	if e != api.OK {
		return 0, None, e
	}
	symbol, status = p.accessible(name)
	return symbol, status, api.OK
}

// Export makes a symbol external.
func (t *Table) Export(pack string, symbol int) api.Errno {
	p, name, e := t.findBoth(pack, symbol)
	if e != api.OK {
		return e
	}
	if n, _ := p.accessible(name); n != symbol {
		return ErrAccess
	}
	for _, user := range t.users(p) {
		if others(name, symbol)(user) {
			return ErrClash
		}
	}
	p.present[name] = symbol
	p.external[symbol] = true
	return api.OK
}

// Unexport makes a symbol internal.
func (t *Table) Unexport(pack string, symbol int) api.Errno {
	p, name, e := t.findBoth(pack, symbol)
	if e != api.OK {
		return e
	}
	switch n, _ := p.accessible(name); {
	case n != symbol:
		return ErrAccess
	case p.name == keyword:
		return api.ErrArg
	}
	delete(p.external, symbol)
	return api.OK
}

// Import makes a symbol present.
func (t *Table) Import(pack string, symbol int) api.Errno {
	p, name, e := t.findBoth(pack, symbol)
	if e != api.OK {
		return e
	}
	n, status := p.accessible(name)
	switch {
	case status != None && n != symbol:
		return ErrClash
	case status == Internal || status == External:
		return api.OK
	}
	p.present[name] = symbol
	if x := &t.symbols[symbol]; x.home == "" {
		x.home = p.name
	}
	return api.OK
}

// Shadow makes a symbol with a name present and shadowing.
func (t *Table) Shadow(pack, name string) api.Errno {
	p, e := t.find(pack, name)
	if e != api.OK {
		return e
	}
	n, is := p.present[name]
	if !is {
		n, e = t.makeIn(p, name)
		if e != api.OK {
			return e
		}
	}
	p.shadowing[n] = true
	return api.OK
}

// ShadowingImport makes a symbol present and shadowing.
func (t *Table) ShadowingImport(pack string, symbol int) api.Errno {
	p, name, e := t.findBoth(pack, symbol)
	if e != api.OK {
		return e
	}
	if n, is := p.present[name]; is && n != symbol {
		t.take(p, n)
	}
	p.present[name] = symbol
	p.shadowing[symbol] = true
	return api.OK
}

// Unintern takes a symbol away from a package.
func (t *Table) Unintern(pack string, symbol int) (bool, api.Errno) {
	p, name, e := t.findBoth(pack, symbol)
	if e != api.OK {
		return false, e
	}
	if n, is := p.present[name]; !is || n != symbol {
		return false, api.OK
	}
	if p.shadowing[symbol] && p.isAmbiguous(name) {
		return false, ErrClash
	}
	t.take(p, symbol)
	return true, api.OK
}

// Fresh makes a symbol without a home.
func (t *Table) Fresh(name string) (int, api.Errno) {
	if e := t.check(name); e != api.OK {
		return 0, e
	}
	return t.make(name, "")
}

// Symbol returns a symbol's name and home.
func (t *Table) Symbol(symbol int) (name, home string, e api.Errno) {
	if e := t.check(); e != api.OK {
		return "", "", e
	}
	if !t.has(symbol) {
		return "", "", api.ErrNone
	}
	x := t.symbols[symbol]
	return x.name, x.home, api.OK
}
