package forms

import (
	"strconv"

	"commonform/api"
)

// Build returns the normal form of a graph.
func Build(g []Node) (api.Form, api.Errno) {
	if e := CheckGraph(g); e != api.OK {
		return api.Form{}, e
	}
	shared := sharedOf(g)
	if len(shared) > maxLabel+1 {
		return api.Form{}, api.ErrSize
	}
	b := &builder{graph: g, labels: map[int]string{}, met: map[int]bool{}}
	for number, i := range shared {
		// Nodes stand in the order in which they are met, so this is the order of the walk.
		b.labels[i] = strconv.Itoa(number)
	}
	f := b.form(0, 1)
	if b.full {
		return api.Form{}, api.ErrSize
	}
	return f, api.OK
}

// A builder makes the form of a right graph, and stops where it would become too great.
type builder struct {
	graph  []Node
	labels map[int]string // of the shared nodes
	met    map[int]bool
	nodes  int
	full   bool
}

// count counts a node of the form in a depth.
func (b *builder) count(depth int) {
	b.nodes++
	if b.nodes > api.MaxForm || depth > api.MaxDepth {
		b.full = true
	}
}

// form returns the form of a place in which a node is.
func (b *builder) form(i, depth int) api.Form {
	text, isShared := b.labels[i]
	if !isShared {
		return b.object(i, depth)
	}
	b.count(depth)
	if b.met[i] {
		return api.Form{Kind: api.FormRef, Text: text}
	}
	b.met[i] = true
	return api.Form{Kind: api.FormLabel, Text: text, Kids: []api.Form{b.object(i, depth+1)}}
}

// object returns the form of a node without its label.
func (b *builder) object(i, depth int) api.Form {
	b.count(depth)
	n := b.graph[i]
	f := api.Form{Kind: n.Kind, Text: n.Text, Home: n.Home}
	for !b.full && len(n.Kids) > 0 {
		last := len(n.Kids) - 1
		for _, k := range n.Kids[:last] {
			if b.full {
				break
			}
			f.Kids = append(f.Kids, b.form(k, depth+1))
		}
		tail := n.Kids[last]
		_, isShared := b.labels[tail]
		if n.Kind == api.FormCons && b.graph[tail].Kind == api.FormCons && !isShared {
			n = b.graph[tail] // the list goes on
			continue
		}
		f.Kids = append(f.Kids, b.form(tail, depth+1))
		break
	}
	return f
}
