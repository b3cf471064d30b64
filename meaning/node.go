package meaning

import (
	"slices"

	"commonform/api"
)

// Keys of an environment: variables have their numbers, and blocks and tagbodies greater ones.
const (
	blockKeys   = 10000
	tagbodyKeys = 20000
	nowhere     = -1 // the key of a tagbody without tags, to which no exit leads
)

// A node is a node of a core tree that is run.
type node struct {
	tree    api.Core
	kids    []*node
	key     int // of a block or a tagbody, or of that to which an exit leads
	segment int // of the tagbody, to which a go leads
	index   int // of a lambda in the state; -1 as long as it has no closure
}

// A goal is where a tag stands.
type goal struct{ key, segment int }

// newNode returns the node of a right tree, which may be changed later.
func newNode(c api.Core) *node {
	goals := map[int]goal{}
	var convert func(c api.Core) *node
	convert = func(c api.Core) *node {
		n := &node{tree: c, key: nowhere, index: -1}
		switch c.Op {
		case api.CoreBlock, api.CoreReturn:
			n.key = blockKeys + c.N
		case api.CoreTagbody:
			if len(c.Vars) > 0 {
				n.key = tagbodyKeys + c.Vars[0]
			}
			for i, tag := range c.Vars {
				goals[tag] = goal{n.key, i + 1}
			}
		case api.CoreGo:
			n.key, n.segment = goals[c.N].key, goals[c.N].segment
		}
		for _, k := range c.Kids {
			n.kids = append(n.kids, convert(k))
		}
		return n
	}
	return convert(copied(c))
}

// copied returns a tree in memory of its own.
func copied(c api.Core) api.Core {
	c.Vars = slices.Clone(c.Vars)
	c.Syms = copiedForms(c.Syms)
	c.Pars = slices.Clone(c.Pars)
	c.Data.Kids = copiedForms(c.Data.Kids)
	var kids []api.Core
	for _, k := range c.Kids {
		kids = append(kids, copied(k))
	}
	c.Kids = kids
	return c
}

func copiedForms(l []api.Form) []api.Form {
	var all []api.Form
	for _, f := range l {
		f.Kids = copiedForms(f.Kids)
		all = append(all, f)
	}
	return all
}

// cut returns how many of the first kids are evaluated for their first values alone, ahead of all else.
func (n *node) cut() int {
	switch n.tree.Op {
	case api.CoreSet, api.CoreSetSpecial, api.CoreIf, api.CoreCatch, api.CoreThrow:
		return 1
	case api.CoreProgv:
		return 2
	case api.CoreCall, api.CoreCallGlobal:
		return len(n.kids)
	case api.CoreLet, api.CoreBind:
		return len(n.kids) - 1
	}
	return 0
}

// last returns the last kid.
func (n *node) last() *node { return n.kids[len(n.kids)-1] }
