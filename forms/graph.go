package forms

import (
	"iter"
	"slices"

	"commonform/api"
)

// Node is an object of a graph: its kind, its text and home as in a form, and the indices of its parts; a cons has two, its car and its cdr.
type Node struct {
	Kind       int
	Text, Home string
	Kids       []int
}

// hasIdentity reports whether objects of a kind may be equal without being the same.
func hasIdentity(kind int) bool {
	return !isAtom(kind)
}

// Nodes returns the graph of a form.
func Nodes(f api.Form) ([]Node, api.Errno) {
	if e := Check(f); e != api.OK {
		return nil, e
	}
	g := &grapher{labels: labelsOf(f), places: map[string]int{}, symbols: map[[2]string]int{}}
	g.object(f)
	if len(g.nodes) > api.MaxForm {
		return nil, api.ErrSize
	}
	return g.nodes, api.OK
}

// A grapher makes the graph of a form without errors.
type grapher struct {
	nodes   []Node
	labels  map[string]*label
	places  map[string]int // of the objects of labels that were met
	symbols map[[2]string]int
}

// object returns the index of the object of a part of the form.
func (g *grapher) object(f api.Form) int {
	switch f.Kind {
	case api.FormRef:
		kid := g.labels[f.Text].kid
		if !isAtom(kid.Kind) {
			return g.places[f.Text]
		}
		return g.object(kid)
	case api.FormLabel:
		// The place is known ahead of the object: its own parts may refer to it.
		g.places[f.Text] = len(g.nodes)
		return g.object(f.Kids[0])
	case api.FormCons:
		return g.conses(f.Kids)
	case api.FormSymbol:
		return g.symbol(f)
	}
	at := g.node(f, len(f.Kids))
	for i, k := range f.Kids {
		part := g.object(k)
		g.nodes[at].Kids[i] = part
	}
	return at
}

// node adds a node for an object, whose parts are still to come.
func (g *grapher) node(f api.Form, parts int) int {
	g.nodes = append(g.nodes, Node{f.Kind, f.Text, f.Home, make([]int, parts)})
	return len(g.nodes) - 1
}

func (g *grapher) symbol(f api.Form) int {
	name := [2]string{f.Home, f.Text}
	at, some := g.symbols[name]
	if !some {
		at = g.node(f, 0)
		g.symbols[name] = at
	}
	return at
}

// conses adds the conses of a list whose last element is its tail, and returns the first one.
func (g *grapher) conses(l []api.Form) int {
	cell := api.Form{Kind: api.FormCons}
	first := g.node(cell, 2)
	at, last := first, len(l)-1
	for i, k := range l[:last] {
		if i > 0 {
			next := g.node(cell, 2)
			g.nodes[at].Kids[1] = next
			at = next
		}
		car := g.object(k)
		g.nodes[at].Kids[0] = car
	}
	tail := g.object(l[last])
	g.nodes[at].Kids[1] = tail
	return first
}

// met yields the indices of the nodes that are met from one on, in the order in which they are met first.
func met(g []Node, i int) iter.Seq[int] {
	return func(yield func(int) bool) {
		reach(g, i, make([]bool, len(g)), yield)
	}
}

// reach yields the nodes that are met from one on and have no mark, and reports whether to go on.
func reach(g []Node, i int, marks []bool, yield func(int) bool) bool {
	if marks[i] {
		return true
	}
	marks[i] = true
	if !yield(i) {
		return false
	}
	for _, k := range g[i].Kids {
		if !reach(g, k, marks, yield) {
			return false
		}
	}
	return true
}

// CheckGraph returns the error of a graph.
func CheckGraph(g []Node) api.Errno {
	if len(g) < 1 || len(g) > api.MaxForm {
		return api.ErrForm
	}
	symbols := map[[2]string]bool{}
	for _, n := range g {
		if !isRightNode(g, n) {
			return api.ErrForm
		}
		if n.Kind != api.FormSymbol {
			continue
		}
		name := [2]string{n.Home, n.Text}
		if symbols[name] {
			return api.ErrForm
		}
		symbols[name] = true
	}
	if !areInOrder(g) || !haveOnePlace(g) {
		return api.ErrForm
	}
	return api.OK
}

// isRightNode reports whether a node is as in a right form, and its parts are nodes.
func isRightNode(g []Node, n Node) bool {
	if n.Kind > api.FormArray || !hasShape(n.Kind, n.Text, n.Home, len(n.Kids)) {
		return false
	}
	for _, k := range n.Kids {
		if k < 0 || k >= len(g) {
			return false
		}
	}
	switch n.Kind {
	case api.FormCons:
		return len(n.Kids) == 2
	case api.FormComplex:
		re, im := g[n.Kids[0]], g[n.Kids[1]]
		return areParts(re.Kind, im.Kind, im.Text)
	}
	return true
}

// areInOrder reports whether the nodes stand in the order in which they are met, each of them.
func areInOrder(g []Node) bool {
	next := 0
	for i := range met(g, 0) {
		if i != next {
			return false
		}
		next++
	}
	return next == len(g)
}

// haveOnePlace reports whether each number and each character has just one place.
func haveOnePlace(g []Node) bool {
	for i, n := range placesOf(g) {
		if isAtom(g[i].Kind) && g[i].Kind != api.FormSymbol && n != 1 {
			return false
		}
	}
	return true
}

// placesOf returns, for each node, in how many places it is.
func placesOf(g []Node) []int {
	places := make([]int, len(g))
	places[0] = 1
	for _, n := range g {
		for _, k := range n.Kids {
			places[k]++
		}
	}
	return places
}

// checkIndices returns ErrForm for a graph that is not right, and then ErrArg for what is no index of it.
func checkIndices(g []Node, indices ...int) api.Errno {
	if e := CheckGraph(g); e != api.OK {
		return e
	}
	for _, i := range indices {
		if i < 0 || i >= len(g) {
			return api.ErrArg
		}
	}
	return api.OK
}

// Part returns the graph of a node and all that it has.
func Part(g []Node, i int) ([]Node, api.Errno) {
	if e := checkIndices(g, i); e != api.OK {
		return nil, e
	}
	return renumbered(g, i), api.OK
}

// renumbered returns the graph of the nodes that are met from one on.
func renumbered(g []Node, i int) []Node {
	fresh := make([]int, len(g))
	var part []Node
	for old := range met(g, i) {
		fresh[old] = len(part)
		n := g[old]
		n.Kids = slices.Clone(n.Kids)
		part = append(part, n)
	}
	for _, n := range part {
		for j, k := range n.Kids {
			n.Kids[j] = fresh[k]
		}
	}
	return part
}

// Shared returns the nodes with identity that several places have.
func Shared(g []Node) ([]int, api.Errno) {
	if e := CheckGraph(g); e != api.OK {
		return nil, e
	}
	return sharedOf(g), api.OK
}

func sharedOf(g []Node) []int {
	var shared []int
	for i, n := range placesOf(g) {
		if n > 1 && hasIdentity(g[i].Kind) {
			shared = append(shared, i)
		}
	}
	return shared
}

// Circular reports whether a node is met from its own parts.
func Circular(g []Node, i int) (bool, api.Errno) {
	if e := checkIndices(g, i); e != api.OK {
		return false, e
	}
	for k := range met(g, i) {
		if slices.Contains(g[k].Kids, i) {
			return true, api.OK
		}
	}
	return false, api.OK
}

// Cars returns the elements of a list, and its last cdr.
func Cars(g []Node, i int) (elements []int, last int, e api.Errno) {
	if e := checkIndices(g, i); e != api.OK {
		return nil, 0, e
	}
	seen := make([]bool, len(g))
	for g[i].Kind == api.FormCons {
		if seen[i] {
			return nil, 0, api.ErrOrder
		}
		seen[i] = true
		elements = append(elements, g[i].Kids[0])
		i = g[i].Kids[1]
	}
	return elements, i, api.OK
}
