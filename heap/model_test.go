package heap_test

import (
	"math/rand"
	"slices"
	"testing"

	"commonform/api"
	"commonform/heap"
)

// The model of a heap has objects behind pointers, which have no places.
type model struct {
	limit, young int
	old, new     []*object // the first object is the first old one
	roots        map[int]value
	next, moves  int
}

type object struct {
	kind   int
	raw    bool
	bytes  string
	fields []value
}

// A value is an immediate word, or an object.
type value struct {
	word   heap.Word
	object *object
}

func newModel(limit, young int) *model {
	first := &object{kind: heap.KindSymbol}
	first.fields = slices.Repeat([]value{{object: first}}, 5)
	return &model{limit: limit, young: young, old: []*object{first}, roots: map[int]value{}}
}

func (m *model) all() []*object { return slices.Concat(m.old, m.new) }

func (o *object) size() int {
	if o.raw {
		return 1 + (len(o.bytes)+7)/8
	}
	return 1 + len(o.fields)
}

func sizeOf(l []*object) int {
	n := 0
	for _, o := range l {
		n += o.size()
	}
	return n
}

func (m *model) place(o *object) int {
	l := m.all()
	return sizeOf(l[:slices.Index(l, o)])
}

func (m *model) word(v value) heap.Word {
	if v.object == nil {
		return v.word
	}
	return ref(m.place(v.object))
}

func (m *model) words(l []value) []heap.Word {
	var out []heap.Word
	for _, v := range l {
		out = append(out, m.word(v))
	}
	return out
}

// value returns what a word means, and whether it is right.
func (m *model) value(w heap.Word) (value, bool) {
	if w%8 != 3 {
		c := w >> 3
		return value{word: w}, w%8 == 0 || w == heap.Unbound || w%8 == 1 && (c < 55296 || c > 57343 && c <= 1114111)
	}
	at := heap.Word(0)
	for _, o := range m.all() {
		if at == w>>3 {
			return value{object: o}, true
		}
		at += heap.Word(o.size())
	}
	return value{}, false
}

// object returns the object to which a word is a reference.
func (m *model) object(w heap.Word) *object {
	v, _ := m.value(w)
	return v.object
}

func (m *model) make(o *object) api.Errno {
	if o.kind < 1 || o.kind > 31 {
		return api.ErrArg
	}
	if sizeOf(m.all())+o.size() > m.limit {
		return api.ErrWords
	}
	m.new = append(m.new, o)
	return api.OK
}

func (m *model) field(w heap.Word, i int) (*value, api.Errno) {
	o := m.object(w)
	switch {
	case o == nil:
		return nil, heap.ErrWord
	case o.raw:
		return nil, heap.ErrRaw
	case i < 0 || i >= len(o.fields):
		return nil, api.ErrRange
	}
	return &o.fields[i], api.OK
}

func (m *model) keep(old, young []heap.Word) api.Errno {
	seen := []*object{m.old[0]}
	for _, w := range slices.Concat(old, young) {
		o := m.object(w)
		if o == nil {
			return heap.ErrWord
		}
		if slices.Contains(seen, o) {
			return api.ErrTwice
		}
		seen = append(seen, o)
	}
	for _, o := range seen {
		for i := range o.fields {
			o.fields[i] = left(o.fields[i], seen)
		}
	}
	for i, v := range m.roots {
		m.roots[i] = left(v, seen)
	}
	m.old, m.new = slices.Clone(seen[:1+len(old)]), slices.Clone(seen[1+len(old):])
	m.moves++
	return api.OK
}

// left is what a value is when there are only some objects any more.
func left(v value, l []*object) value {
	if v.object != nil && !slices.Contains(l, v.object) {
		return value{word: heap.Unbound}
	}
	return v
}

// cells returns the graph of some values.
func (m *model) cells(values []value) ([]heap.Cell, []heap.Field) {
	index := map[*object]int{m.old[0]: -2}
	var cells []heap.Cell
	var meet func(v value) heap.Field
	meet = func(v value) heap.Field {
		if v.object == nil {
			return imm(v.word)
		}
		if i, ok := index[v.object]; ok {
			return obj(i)
		}
		i := len(cells)
		index[v.object] = i
		cells = append(cells, heap.Cell{Kind: v.object.kind, Raw: v.object.raw, Bytes: v.object.bytes})
		for _, x := range v.object.fields {
			f := meet(x)
			cells[i].Fields = append(cells[i].Fields, f)
		}
		return obj(i)
	}
	var fields []heap.Field
	for _, v := range values {
		fields = append(fields, meet(v))
	}
	return cells, fields
}

func (m *model) dump() dump {
	d := dump{Limit: m.limit, Moves: m.moves, Used: sizeOf(m.all()), Old: sizeOf(m.old), Full: sizeOf(m.new) > m.young}
	for _, o := range m.all() {
		d.Objects = append(d.Objects, ref(m.place(o)))
		d.Kinds = append(d.Kinds, o.kind)
		d.Lens = append(d.Lens, len(o.bytes)+len(o.fields))
		d.Places = append(d.Places, m.place(o))
		d.Bytes = append(d.Bytes, o.bytes)
		d.Fields = append(d.Fields, m.words(o.fields))
		if slices.Contains(m.old, o) && slices.ContainsFunc(o.fields, func(v value) bool { return slices.Contains(m.new, v.object) }) {
			d.Remembered = append(d.Remembered, ref(m.place(o)))
		}
	}
	for i := range m.next {
		if v, ok := m.roots[i]; ok {
			d.Roots = append(d.Roots, i)
			d.Words = append(d.Words, m.word(v))
		}
	}
	return d
}

// A pair does everything with a heap and with its model.
type pair struct {
	t *testing.T
	r *rand.Rand
	h *heap.Heap
	m *model
}

func (p *pair) same(what string, got, want any, e, wanted api.Errno) {
	p.t.Helper()
	if got != want || e != wanted {
		p.t.Fatalf("%s = %v, %v; expected %v, %v", what, got, e, want, wanted)
	}
}

func (p *pair) make() {
	o := &object{kind: p.r.Intn(34) - 1, raw: p.r.Intn(3) == 0}
	var w heap.Word
	var e api.Errno
	if o.raw {
		bytes := make([]byte, p.r.Intn(20))
		p.r.Read(bytes)
		o.bytes = string(bytes)
		w, e = p.h.Raw(o.kind, o.bytes)
	} else {
		o.fields = slices.Repeat([]value{{object: p.m.old[0]}}, p.r.Intn(6))
		w, e = p.h.New(o.kind, len(o.fields))
	}
	wanted := p.m.make(o)
	want := heap.Word(0)
	if wanted == api.OK {
		want = ref(p.m.place(o))
	}
	p.same("New", w, want, e, wanted)
}

func (p *pair) set() {
	w, x, i := anyWord(p.r, p.h), anyWord(p.r, p.h), p.r.Intn(7)-1
	field, wanted := p.m.field(w, i)
	old := heap.Word(0)
	if wanted == api.OK {
		old = p.m.word(*field)
	}
	got, e := p.h.Get(w, i)
	p.same("Get", got, old, e, wanted)
	v, ok := p.m.value(x)
	if wanted == api.OK && !ok {
		wanted = heap.ErrWord
	}
	if wanted == api.OK {
		*field = v
	}
	p.same("Set", nil, nil, p.h.Set(w, i, x), wanted)
}

func (p *pair) look() {
	w := anyWord(p.r, p.h)
	bytes, e := p.h.Bytes(w)
	switch o := p.m.object(w); {
	case o == nil:
		p.same("Bytes", bytes, "", e, heap.ErrWord)
		p.same("Place", [3]int{p.h.Place(w), p.h.Kind(w), p.h.Len(w)}, [3]int{-1, 0, 0}, 0, 0)
	case !o.raw:
		p.same("Bytes", bytes, "", e, heap.ErrRaw)
	default:
		p.same("Bytes", bytes, o.bytes, e, api.OK)
	}
}

func (p *pair) root() {
	w := anyWord(p.r, p.h)
	v, ok := p.m.value(w)
	want := -1
	if ok {
		want = p.m.next
		p.m.roots[want] = v
		p.m.next++
	}
	p.same("Root", p.h.Root(w), want, 0, 0)
}

func (p *pair) put() {
	n, w := p.r.Intn(p.m.next+3)-1, anyWord(p.r, p.h)
	old, ok := p.m.roots[n]
	got, e := p.h.At(n)
	v, right := p.m.value(w)
	switch {
	case !ok:
		p.same("At", got, heap.Word(0), e, api.ErrNone)
		p.same("Put", nil, nil, p.h.Put(n, w), api.ErrNone)
		p.same("Drop", nil, nil, p.h.Drop(n), api.ErrNone)
		return
	case right:
		p.same("Put", nil, nil, p.h.Put(n, w), api.OK)
		p.m.roots[n] = v
	default:
		p.same("Put", nil, nil, p.h.Put(n, w), heap.ErrWord)
	}
	p.same("At", got, p.m.word(old), e, api.OK)
	if p.r.Intn(2) == 0 {
		p.same("Drop", nil, nil, p.h.Drop(n), api.OK)
		delete(p.m.roots, n)
	}
}

func (p *pair) keep() {
	l := p.h.Objects()[1:]
	p.r.Shuffle(len(l), func(i, j int) { l[i], l[j] = l[j], l[i] })
	l = l[:len(l)-p.r.Intn(1+len(l))/2]
	for p.r.Intn(4) == 0 {
		l = slices.Insert(l, p.r.Intn(len(l)+1), anyWord(p.r, p.h))
	}
	at := p.r.Intn(len(l) + 1)
	e := p.h.Keep(l[:at], l[at:])
	p.same("Keep", nil, nil, e, p.m.keep(l[:at], l[at:]))
}

func (p *pair) graph() {
	var words []heap.Word
	var values []value
	right := true
	for range p.r.Intn(4) {
		w := anyWord(p.r, p.h)
		v, ok := p.m.value(w)
		words, values, right = append(words, w), append(values, v), right && ok
	}
	cells, fields, e := p.h.Cells(words)
	if !right {
		p.same("Cells", len(cells)+len(fields), 0, e, heap.ErrWord)
		return
	}
	wantCells, wantFields := p.m.cells(values)
	if e != api.OK || !same(cells, wantCells) || !slices.Equal(fields, wantFields) {
		p.t.Fatalf("Cells = %v, %v, %v; expected %v, %v", cells, fields, e, wantCells, wantFields)
	}
	p.lay(cells, fields)
}

func (p *pair) lay(cells []heap.Cell, fields []heap.Field) {
	var objects []*object
	for _, c := range cells {
		objects = append(objects, &object{kind: c.Kind, raw: c.Raw, bytes: c.Bytes})
	}
	valueOf := func(f heap.Field) value {
		switch f.Object {
		case -1:
			return value{word: f.Word}
		case -2:
			return value{object: p.m.old[0]}
		}
		return value{object: objects[f.Object]}
	}
	for i, c := range cells {
		for _, f := range c.Fields {
			objects[i].fields = append(objects[i].fields, valueOf(f))
		}
	}
	words, e := p.h.Lay(cells, fields)
	if sizeOf(p.m.all())+sizeOf(objects) > p.m.limit {
		p.same("Lay", len(words), 0, e, api.ErrWords)
		return
	}
	p.m.new = append(p.m.new, objects...)
	var values []value
	for _, f := range fields {
		values = append(values, valueOf(f))
	}
	if e != api.OK || !slices.Equal(words, p.m.words(values)) {
		p.t.Fatalf("Lay = %v, %v; expected %v", words, e, p.m.words(values))
	}
}

// P15.1, P15.3, P15.5: a heap does what its model does, whatever is done with it.
func TestModel(t *testing.T) {
	for seed := range int64(150) {
		r := rand.New(rand.NewSource(seed))
		limit := 64 + r.Intn(300)
		young := 1 + r.Intn(limit)
		p := &pair{t, r, mustHeap(t, limit, young), newModel(limit, young)}
		for step := range 150 {
			switch n := r.Intn(20); {
			case n < 6:
				p.make()
			case n < 12:
				p.set()
			case n < 13:
				p.look()
			case n < 15:
				p.root()
			case n < 17:
				p.put()
			case n < 18:
				p.keep()
			default:
				p.graph()
			}
			if got, want := dumpOf(p.h), p.m.dump(); !got.is(want) {
				t.Fatalf("seed %d, step %d: %+v; expected %+v", seed, step, got, want)
			}
		}
	}
}
