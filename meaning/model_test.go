package meaning_test

import (
	"math/rand"
	"strings"
	"testing"

	"commonform/api"
	"commonform/core"
	"commonform/lib"
	"commonform/meaning"
)

// The model runs trees by recursion: values are Go's own, and exits are panics.
type (
	thing any    // an int, a name, a pair, a function or a builtin one
	name  string // of a symbol; NIL and T are symbols, too
	pair  struct{ car, cdr thing }
	fun   struct {
		lambda api.Core
		env    *place
	}
	builtin string
	// A place is what a number means: a cell, or what was begun of a block or a tagbody.
	place struct {
		sort  byte // v, b or t
		n     int
		cell  *thing
		begun *activity
		outer *place
	}
	activity struct{ running bool }
	// A departure is an exit that is on its way.
	departure struct {
		to     *activity
		tag    int
		values []thing
		fault  string // of one that leaves all
	}
	// A catcher is a catch that is running.
	catcher struct {
		tag   thing
		begun *activity
	}
	model struct {
		values   map[name]thing
		catchers []catcher
		output   strings.Builder
		fuel     int
		handles  bool // %FAULT throws the type to the tag HANDLED
		depth    int
	}
	tooLong struct{}
)

func (p *place) find(sort byte, n int) *place {
	for ; p.sort != sort || p.n != n; p = p.outer {
		continue
	}
	return p
}

func (p *place) bind(n int, x thing) *place { return &place{sort: 'v', n: n, cell: &x, outer: p} }

const none = name("NIL")

func one(l []thing) thing {
	if len(l) == 0 {
		return none
	}
	return l[0]
}

func list(l []thing) thing {
	var x thing = none
	for i := len(l) - 1; i >= 0; i-- {
		x = &pair{l[i], x}
	}
	return x
}

func write(x thing) string {
	switch x := x.(type) {
	case int:
		return number(x)
	case name:
		return strings.ToLower(string(x))
	case *pair:
		s := "(" + write(x.car)
		for {
			next, ok := x.cdr.(*pair)
			if !ok {
				break
			}
			x = next
			s += " " + write(x.car)
		}
		if x.cdr != thing(none) {
			s += " . " + write(x.cdr)
		}
		return s + ")"
	case *fun:
		return "%::closure"
	}
	return "%::builtin"
}

func writeAll(l []thing) string {
	var texts []string
	for _, x := range l {
		texts = append(texts, write(x))
	}
	return strings.Join(texts, " ")
}

// fault leaves all, or is handed to the handler.
func (m *model) fault(condition string, data ...thing) []thing {
	if m.handles {
		m.depth++
		if m.depth > 50 {
			panic(tooLong{})
		}
		m.throw(name("HANDLED"), []thing{name(condition)})
	}
	panic(departure{fault: strings.TrimRight("! "+condition+" "+writeAll(data), " ")})
}

func (m *model) throw(tag thing, values []thing) []thing {
	for i := len(m.catchers) - 1; i >= 0; i-- {
		if m.catchers[i].tag == tag {
			panic(departure{to: m.catchers[i].begun, values: values})
		}
	}
	return m.fault("CONTROL-ERROR", tag)
}

// within runs f, and takes an exit to what was begun.
func (m *model) within(begun *activity, f func() []thing) (values []thing, tag int, left bool) {
	catchers := len(m.catchers)
	begun.running = true
	defer func() {
		begun.running = false
		m.catchers = m.catchers[:catchers]
		if x := recover(); x != nil {
			d, ok := x.(departure)
			if !ok || d.to != begun {
				panic(x)
			}
			values, tag, left = d.values, d.tag, true
		}
	}()
	return f(), 0, false
}

func (m *model) ones(l []api.Core, env *place) []thing {
	var all []thing
	for _, c := range l {
		all = append(all, one(m.eval(c, env)))
	}
	return all
}

func (m *model) eval(c api.Core, env *place) []thing {
	if m.fuel--; m.fuel < 0 {
		panic(tooLong{})
	}
	last := len(c.Kids) - 1
	switch c.Op {
	case api.CoreConst:
		return []thing{constant(c.Data)}
	case api.CoreVar:
		return []thing{*env.find('v', c.N).cell}
	case api.CoreSet:
		x := one(m.eval(c.Kids[0], env))
		*env.find('v', c.N).cell = x
		return []thing{x}
	case api.CoreSpecial:
		if x, ok := m.values[name(c.Data.Text)]; ok {
			return []thing{x}
		}
		return m.fault("UNBOUND-VARIABLE", name(c.Data.Text))
	case api.CoreSetSpecial:
		x := one(m.eval(c.Kids[0], env))
		m.values[name(c.Data.Text)] = x
		return []thing{x}
	case api.CoreFunction:
		return []thing{builtin(c.Data.Text)}
	case api.CoreLambda:
		return []thing{&fun{c, env}}
	case api.CoreCall:
		l := m.ones(c.Kids, env)
		return m.call(l[0], l[1:])
	case api.CoreCallGlobal:
		return m.call(builtin(c.Data.Text), m.ones(c.Kids, env))
	case api.CoreIf:
		if one(m.eval(c.Kids[0], env)) != thing(none) {
			return m.eval(c.Kids[1], env)
		}
		return m.eval(c.Kids[2], env)
	case api.CoreProgn:
		if last < 0 {
			return []thing{none}
		}
		m.ones(c.Kids[:last], env)
	case api.CoreLet:
		for i, x := range m.ones(c.Kids[:last], env) {
			env = env.bind(c.Vars[i], x)
		}
	case api.CoreLabels:
		for _, v := range c.Vars {
			env = env.bind(v, none)
		}
		for i, v := range c.Vars {
			*env.find('v', v).cell = &fun{c.Kids[i], env}
		}
	case api.CoreValuesCall:
		l := []thing{one(m.eval(c.Kids[0], env))}
		for _, k := range c.Kids[1:] {
			l = append(l, m.eval(k, env)...)
		}
		return m.call(l[0], l[1:])
	case api.CoreValuesFirst:
		values := m.eval(c.Kids[0], env)
		m.ones(c.Kids[1:], env)
		return values
	default:
		return m.exits(c, env)
	}
	return m.eval(c.Kids[last], env)
}

// exits runs what has to do with exits and dynamic bindings.
func (m *model) exits(c api.Core, env *place) []thing {
	switch c.Op {
	case api.CoreBind:
		l := m.ones(c.Kids[:len(c.Syms)], env)
		var names []name
		for _, s := range c.Syms {
			names = append(names, name(s.Text))
		}
		return m.bound(names, l, c.Kids[len(c.Syms)], env)
	case api.CoreProgv:
		l := m.ones(c.Kids[:2], env)
		var names []name
		var values []thing
		for p, ok := l[0].(*pair); ok; p, ok = p.cdr.(*pair) {
			names = append(names, p.car.(name))
		}
		p, ok := l[1].(*pair)
		if !ok && l[1] != thing(none) {
			return m.fault("TYPE-ERROR", l[1], name("LIST"))
		}
		for ; ok; p, ok = p.cdr.(*pair) {
			values = append(values, p.car)
		}
		return m.bound(names, values, c.Kids[2], env)
	case api.CoreBlock:
		begun := &activity{}
		values, _, _ := m.within(begun, func() []thing {
			return m.eval(c.Kids[0], &place{sort: 'b', n: c.N, begun: begun, outer: env})
		})
		return values
	case api.CoreReturn:
		values := m.eval(c.Kids[0], env)
		return m.leave(env.find('b', c.N), departure{values: values})
	case api.CoreTagbody:
		return m.tagbody(c, env)
	case api.CoreGo:
		return m.leave(env.find('t', c.N), departure{tag: c.N})
	case api.CoreCatch:
		begun := &activity{}
		tag := one(m.eval(c.Kids[0], env))
		values, _, _ := m.within(begun, func() []thing {
			m.catchers = append(m.catchers, catcher{tag, begun})
			return m.eval(c.Kids[1], env)
		})
		return values
	case api.CoreThrow:
		tag := one(m.eval(c.Kids[0], env))
		return m.throw(tag, m.eval(c.Kids[1], env))
	}
	return m.protect(c, env)
}

func (m *model) leave(p *place, d departure) []thing {
	if !p.begun.running {
		return m.fault("CONTROL-ERROR")
	}
	d.to = p.begun
	panic(d)
}

func (m *model) tagbody(c api.Core, env *place) []thing {
	begun := &activity{}
	for _, tag := range c.Vars {
		env = &place{sort: 't', n: tag, begun: begun, outer: env}
	}
	at := 0
	for {
		_, tag, left := m.within(begun, func() []thing {
			for _, k := range c.Kids[at:] {
				m.eval(k, env)
			}
			return nil
		})
		if !left {
			return []thing{none}
		}
		for i, t := range c.Vars {
			if t == tag {
				at = i + 1
			}
		}
	}
}

func (m *model) protect(c api.Core, env *place) (values []thing) {
	catchers := len(m.catchers)
	defer func() {
		x := recover()
		if _, ok := x.(tooLong); ok {
			panic(x)
		}
		m.catchers = m.catchers[:catchers]
		m.eval(c.Kids[1], env)
		if x != nil {
			panic(x)
		}
	}()
	return m.eval(c.Kids[0], env)
}

func (m *model) bound(names []name, values []thing, body api.Core, env *place) []thing {
	for i, n := range names {
		old, had := m.values[n]
		defer func() {
			delete(m.values, n)
			if had {
				m.values[n] = old
			}
		}()
		delete(m.values, n)
		if i < len(values) {
			m.values[n] = values[i]
		}
	}
	return m.eval(body, env)
}

func constant(f api.Form) thing {
	switch f.Kind {
	case api.FormInt:
		n := 0
		for _, c := range f.Text {
			n = 10*n + int(c-'0')
		}
		return n
	case api.FormCons:
		var l []thing
		for _, k := range f.Kids[:len(f.Kids)-1] {
			l = append(l, constant(k))
		}
		return list(l)
	}
	if f.Home == "KEYWORD" {
		return name(":" + f.Text)
	}
	return name(f.Text)
}

func (m *model) call(f thing, args []thing) []thing {
	if m.fuel--; m.fuel < 0 {
		panic(tooLong{})
	}
	switch f := f.(type) {
	case *fun:
		return m.enter(f, args)
	case builtin:
		return m.builtin(string(f), args)
	case name:
		if strings.Contains(" LIST VALUES CAR NOTE ", " "+string(f)+" ") {
			return m.builtin(string(f), args)
		}
		return m.fault("UNDEFINED-FUNCTION", f)
	}
	return m.fault("TYPE-ERROR", f, name("FUNCTION"))
}

func (m *model) builtin(f string, args []thing) []thing {
	switch f {
	case "LIST":
		return []thing{list(args)}
	case "VALUES":
		return args
	}
	if len(args) != 1 {
		return m.fault("PROGRAM-ERROR", name(f))
	}
	x := args[0]
	if f == "NOTE" {
		m.output.WriteString(write(x) + " ")
		return args
	}
	if p, ok := x.(*pair); ok {
		return []thing{p.car}
	}
	if x == thing(none) {
		return []thing{none}
	}
	return m.fault("TYPE-ERROR", x, name("LIST"))
}

// enter binds arguments to required, optional and rest parameters, and one key.
func (m *model) enter(f *fun, args []thing) []thing {
	c, env, all := f.lambda, f.env, args
	required, positional, open, keyed := 0, 0, false, false
	for _, p := range c.Pars {
		switch p.Kind {
		case api.ParamRequired:
			required++
			positional++
		case api.ParamOptional:
			positional++
		case api.ParamRest:
			open = true
		case api.ParamKey:
			keyed = true
		}
	}
	left := all[min(len(all), positional):]
	if len(all) < required || len(left) > 0 && !open && !keyed {
		return m.fault("PROGRAM-ERROR", f)
	}
	for i := 0; keyed && i < len(left); i += 2 {
		if left[i] != thing(name(":K")) || i+1 == len(left) {
			return m.fault("PROGRAM-ERROR", f)
		}
	}
	kid := 0
	for _, p := range c.Pars {
		var x thing
		given := len(args) > 0
		switch p.Kind {
		case api.ParamRest:
			x, given = list(left), true
		case api.ParamKey:
			if given = len(left) > 0; given {
				x = left[1]
			}
		default:
			if given {
				x, args = args[0], args[1:]
			}
		}
		if p.Kind == api.ParamOptional || p.Kind == api.ParamKey {
			if !given {
				x = one(m.eval(c.Kids[kid], env))
			}
			kid++
		}
		env = env.bind(p.Var, x)
		if p.Given >= 0 {
			env = env.bind(p.Given, map[bool]thing{true: name("T"), false: none}[given])
		}
	}
	return m.eval(c.Kids[kid], env)
}

// run tells how a tree ends; false if it takes too long.
func (m *model) run(c api.Core) (s string, ok bool) {
	defer func() {
		switch x := recover().(type) {
		case nil:
		case departure:
			s, ok = x.fault, true
		case tooLong:
			s, ok = "", false
		default:
			panic(x)
		}
	}()
	return writeAll(m.eval(c, nil)), true
}

// A speaker makes trees that do something.
type speaker struct {
	r    *rand.Rand
	next int
}

type context struct{ variables, functions, blocks, tags []int }

func and(l []int, more ...int) []int { return append(append([]int(nil), l...), more...) }

func (s *speaker) number() int {
	s.next++
	return s.next - 1
}

func node(op int, kids ...api.Core) api.Core { return api.Core{Op: op, Kids: kids} }

func data(kind int, text string) api.Core {
	f := api.Form{Kind: kind, Text: text}
	if kind == api.FormSymbol {
		f.Home = "COMMON-LISP"
		if text == ":K" {
			f = api.Form{Kind: kind, Home: "KEYWORD", Text: "K"}
		}
	}
	return api.Core{Op: api.CoreConst, Data: f}
}

func global(op int, text string, kids ...api.Core) api.Core {
	c := data(api.FormSymbol, text)
	c.Op, c.Kids = op, kids
	return c
}

func (s *speaker) special() string { return []string{"SP", "SQ"}[s.r.Intn(2)] }

func (s *speaker) leaf(at context) api.Core {
	switch n := s.r.Intn(8); {
	case n < 3 && len(at.variables) > 0:
		return api.Core{Op: api.CoreVar, N: at.variables[s.r.Intn(len(at.variables))]}
	case n == 3:
		return global(api.CoreSpecial, s.special())
	case n == 4 && len(at.functions) > 0:
		return api.Core{Op: api.CoreVar, N: at.functions[s.r.Intn(len(at.functions))]}
	case n == 5:
		return data(api.FormSymbol, []string{"NIL", "T", "A", ":K"}[s.r.Intn(4)])
	case n == 6 && len(at.tags) > 0:
		return api.Core{Op: api.CoreGo, N: at.tags[s.r.Intn(len(at.tags))]}
	}
	return data(api.FormInt, number(s.r.Intn(9)))
}

func (s *speaker) some(n, depth int, at context) []api.Core {
	var l []api.Core
	for range n {
		l = append(l, s.tree(depth, at))
	}
	return l
}

func (s *speaker) lambda(depth int, at context) api.Core {
	c := api.Core{Op: api.CoreLambda}
	for kind := api.ParamRequired; kind <= api.ParamKey; kind++ {
		if s.r.Intn(3) > 0 && kind != api.ParamRequired || s.r.Intn(4) == 0 {
			continue
		}
		p := api.Param{Kind: kind, Var: s.number(), Given: -1}
		optional := kind == api.ParamOptional || kind == api.ParamKey
		if optional {
			c.Kids = append(c.Kids, s.tree(depth-1, at))
		}
		at.variables = and(at.variables, p.Var)
		if optional && s.r.Intn(2) == 0 {
			p.Given = s.number()
			at.variables = and(at.variables, p.Given)
		}
		if kind == api.ParamKey {
			p.Key = api.Form{Kind: api.FormSymbol, Home: "KEYWORD", Text: "K"}
		}
		c.Pars = append(c.Pars, p)
	}
	c.Kids = append(c.Kids, s.tree(depth-1, at))
	return c
}

func (s *speaker) tree(depth int, at context) api.Core {
	if depth <= 0 {
		return s.leaf(at)
	}
	depth--
	sub := func() api.Core { return s.tree(depth, at) }
	tags := []string{"A", "B", "HANDLED"}
	switch s.r.Intn(24) {
	case 0, 1:
		return global(api.CoreCallGlobal, "NOTE", sub())
	case 2:
		return global(api.CoreCallGlobal, []string{"LIST", "VALUES", "VALUES", "CAR"}[s.r.Intn(4)], s.some(s.r.Intn(3), depth, at)...)
	case 3:
		return node(api.CoreIf, sub(), sub(), sub())
	case 4:
		return node(api.CoreProgn, s.some(s.r.Intn(4), depth, at)...)
	case 5, 6:
		if len(at.functions) > 0 {
			f := api.Core{Op: api.CoreVar, N: at.functions[s.r.Intn(len(at.functions))]}
			return node(api.CoreCall, append([]api.Core{f}, s.some(s.r.Intn(3), depth, at)...)...)
		}
		return node(api.CoreCall, append([]api.Core{s.lambda(depth, at)}, s.some(s.r.Intn(3), depth, at)...)...)
	case 7:
		return node(api.CoreCall, append([]api.Core{sub()}, s.some(s.r.Intn(2), depth, at)...)...)
	case 8:
		if len(at.variables) > 0 {
			return api.Core{Op: api.CoreSet, N: at.variables[s.r.Intn(len(at.variables))], Kids: []api.Core{sub()}}
		}
	case 9:
		return global(api.CoreSetSpecial, s.special(), sub())
	case 10:
		return node(api.CoreValuesCall, append([]api.Core{global(api.CoreFunction, "LIST")}, s.some(s.r.Intn(3), depth, at)...)...)
	case 11:
		return node(api.CoreValuesFirst, s.some(1+s.r.Intn(2), depth, at)...)
	case 12:
		return node(api.CoreCatch, data(api.FormSymbol, tags[s.r.Intn(3)]), sub())
	case 13:
		return node(api.CoreThrow, data(api.FormSymbol, tags[s.r.Intn(2)]), sub())
	case 14, 15:
		return node(api.CoreProtect, sub(), sub())
	case 16:
		if len(at.blocks) > 0 {
			return api.Core{Op: api.CoreReturn, N: at.blocks[s.r.Intn(len(at.blocks))], Kids: []api.Core{sub()}}
		}
	case 17:
		f := api.Core{Op: api.CoreConst, Data: api.Form{Kind: api.FormCons, Kids: []api.Form{data(1, "SP").Data, data(1, "SQ").Data, data(1, "NIL").Data}}}
		return node(api.CoreProgv, f, global(api.CoreCallGlobal, "LIST", s.some(s.r.Intn(3), depth, at)...), sub())
	}
	return s.binder(depth, at)
}

// binder makes a tree that binds something.
func (s *speaker) binder(depth int, at context) api.Core {
	switch s.r.Intn(6) {
	case 0:
		c := api.Core{Op: api.CoreLet, Kids: s.some(1+s.r.Intn(2), depth, at)}
		for range c.Kids {
			c.Vars = append(c.Vars, s.number())
		}
		at.variables = and(at.variables, c.Vars...)
		c.Kids = append(c.Kids, s.tree(depth, at))
		return c
	case 1:
		c := api.Core{Op: api.CoreLet, Vars: []int{s.number()}, Kids: []api.Core{s.lambda(depth, at)}}
		at.functions = and(at.functions, c.Vars...)
		c.Kids = append(c.Kids, s.tree(depth, at))
		return c
	case 2:
		c := api.Core{Op: api.CoreLabels, Vars: []int{s.number(), s.number()}}
		at.functions = and(at.functions, c.Vars...)
		c.Kids = []api.Core{s.lambda(depth, at), s.lambda(depth, at), s.tree(depth, at)}
		return c
	case 3:
		c := api.Core{Op: api.CoreBlock, N: s.number()}
		at.blocks = and(at.blocks, c.N)
		c.Kids = s.some(1, depth, at)
		return c
	case 4:
		c := api.Core{Op: api.CoreTagbody}
		for range s.r.Intn(3) {
			c.Vars = append(c.Vars, s.number())
		}
		at.tags = and(at.tags, c.Vars...)
		c.Kids = s.some(len(c.Vars)+1, depth, at)
		return c
	}
	c := api.Core{Op: api.CoreBind, Kids: s.some(1, depth, at)}
	c.Syms = []api.Form{data(api.FormSymbol, s.special()).Data}
	c.Kids = append(c.Kids, s.tree(depth, at))
	return c
}

// A tree does what the model does: with values, faults, what is noted, and the values of symbols behind it.
func TestModel(t *testing.T) {
	ends := map[string]int{}
	for seed := range int64(4000) {
		s := &speaker{r: rand.New(rand.NewSource(seed))}
		c := s.tree(6, context{})
		handles := seed%3 == 0
		if handles {
			c = node(api.CoreCatch, data(api.FormSymbol, "HANDLED"), c)
		}
		if core.Check(c) != api.OK {
			continue
		}
		m := &model{values: map[name]thing{"SP": 0}, fuel: 3000, handles: handles}
		want, ok := m.run(c)
		if !ok {
			ends["too long"]++
			continue
		}
		w := noting(t)
		w.SetValue(symbol(t, w, "SP"), fix(0))
		if m.handles {
			if got := run(t, w, "(progn (%fset '%fault #'(lambda (type data) (throw 'handled type))) 1)"); got != "1" {
				t.Fatal(got)
			}
		}
		end, _ := meaning.Run(w, c, api.MaxSteps)
		text, _ := core.Show(c)
		if got := told(w, end); got != want || w.Output() != m.output.String() {
			t.Fatalf("seed %d: %s | %s; want %s | %s; for %s", seed, got, w.Output(), want, m.output.String(), text)
		}
		for _, n := range []name{"SP", "SQ"} {
			x, _ := w.Value(symbol(t, w, string(n)))
			want := "%::unbound"
			if v, ok := m.values[n]; ok {
				want = write(v)
			}
			if got := shown(w, x); got != want {
				t.Fatalf("seed %d: behind %s %s is %s; want %s", seed, text, n, got, want)
			}
		}
		ends[map[int]string{lib.EndValues: "values", lib.EndFault: "fault"}[end.Kind]]++
		other, _ := core.Renamed(c, 9)
		w2 := noting(t)
		w2.SetValue(symbol(t, w2, "SP"), fix(0))
		if end2, _ := meaning.Run(w2, other, api.MaxSteps); !m.handles && told(w2, end2) != want {
			t.Fatalf("%s renamed is %s; want %s", text, told(w2, end2), want)
		}
	}
	if ends["values"] < 1000 || ends["fault"] < 500 {
		t.Errorf("the runs ended so: %v", ends)
	}
}
