package heap

import "commonform/api"

// Cell is an object of a graph without addresses: its kind, its bytes, and its fields: immediate words, or indices of objects.
type Cell struct {
	Kind   int
	Raw    bool
	Bytes  string
	Fields []Field
}

// Field is an immediate word, or the index of an object (-1: none).
type Field struct {
	Word   Word
	Object int
}

const (
	noObject    = -1
	firstObject = -2

	maxCells = 20000
)

// A graph is what was met of a heap so far.
type graph struct {
	heap  *Heap
	met   map[Word]int
	cells []Cell
}

// Cells returns what some words have.
func (h *Heap) Cells(words []Word) ([]Cell, []Field, api.Errno) {
	if !h.isMade() {
		return nil, nil, api.ErrArg
	}
	if !h.hasAll(words) {
		return nil, nil, ErrWord
	}
	g := &graph{heap: h, met: map[Word]int{Nil: firstObject}}
	fields := g.meet(words)
	return g.cells, fields, api.OK
}

// meet returns some words as Fields, and makes the Cells of all that is met from them.
func (g *graph) meet(words []Word) []Field {
	var l []Field
	for _, w := range words {
		f := Field{w, noObject}
		if w.IsRef() {
			f = Field{0, g.index(w)}
		}
		l = append(l, f)
	}
	return l
}

// index returns the index of an object, which is a new one if it is met first.
func (g *graph) index(w Word) int {
	if i, ok := g.met[w]; ok {
		return i
	}
	i := len(g.cells)
	g.met[w] = i
	place, _ := g.heap.find(w)
	head := g.heap.header(place)
	g.cells = append(g.cells, Cell{Kind: head.kind(), Raw: head.isRaw()})
	if head.isRaw() {
		g.cells[i].Bytes = g.heap.bytes(place)
		return i
	}
	fields := g.meet(g.heap.contents(place))
	g.cells[i].Fields = fields
	return i
}

// Lay makes the objects of a graph.
func (h *Heap) Lay(cells []Cell, words []Field) ([]Word, api.Errno) {
	if !h.isMade() {
		return nil, api.ErrArg
	}
	if e := checkGraph(cells, words); e != api.OK {
		return nil, e
	}
	objects, size := h.newPlaces(cells)
	if !h.hasRoom(size) {
		return nil, api.ErrWords
	}
	for _, c := range cells {
		h.addCell(c, objects)
	}
	var l []Word
	for _, f := range words {
		l = append(l, f.of(objects))
	}
	return l, api.OK
}

// checkGraph returns the first error of cells and words.
func checkGraph(cells []Cell, words []Field) api.Errno {
	if len(cells) > maxCells {
		return api.ErrArg
	}
	for _, c := range cells {
		if e := c.check(len(cells)); e != api.OK {
			return e
		}
	}
	return checkFields(words, len(cells))
}

// check returns the error of one of so many cells.
func (c Cell) check(cells int) api.Errno {
	e := checkNew(c.Kind, len(c.Fields))
	if c.Raw {
		e = checkRaw(c.Kind, c.Bytes)
	}
	if e != api.OK {
		return e
	}
	if c.Raw && len(c.Fields) > 0 || !c.Raw && c.Bytes != "" {
		return ErrRaw
	}
	return checkFields(c.Fields, cells)
}

func checkFields(l []Field, cells int) api.Errno {
	for _, f := range l {
		if !f.isRight(cells) {
			return ErrWord
		}
	}
	return api.OK
}

func (f Field) isRight(cells int) bool {
	if f.Object == noObject {
		return f.Word.isImmediate()
	}
	return f.Word == 0 && f.Object >= firstObject && f.Object < cells
}

// of returns the word of a Field, with the objects of its graph.
func (f Field) of(objects []Word) Word {
	switch f.Object {
	case noObject:
		return f.Word
	case firstObject:
		return Nil
	}
	return objects[f.Object]
}

// newPlaces returns the references that the objects of some cells would have, and how many words they would take.
func (h *Heap) newPlaces(cells []Cell) (objects []Word, size int) {
	for _, c := range cells {
		objects = append(objects, reference(len(h.words)+size))
		size += c.header().size()
	}
	return objects, size
}

func (c Cell) header() header {
	if c.Raw {
		return newHeader(c.Kind, true, len(c.Bytes))
	}
	return newHeader(c.Kind, false, len(c.Fields))
}

// addCell makes the object of a cell.
func (h *Heap) addCell(c Cell, objects []Word) {
	if c.Raw {
		h.addRaw(c.Kind, c.Bytes)
		return
	}
	place := h.add(c.header())
	fields := h.contents(place)
	for i, f := range c.Fields {
		fields[i] = f.of(objects)
	}
}
