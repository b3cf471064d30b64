package forms

import (
	"slices"

	"commonform/api"
)

// The relations of nodes, each one wider than the one ahead.
const (
	byEql = iota
	byEqual
	bySimilarity
)

// What two nodes tell about themselves: that they disagree, that they agree, or that their parts decide.
const (
	disagree = iota
	agree
	asParts
)

// agreement tells what two nodes that are not the same say in a relation.
func agreement(relation int, a, b Node) int {
	if a.Kind != b.Kind || a.Text != b.Text || len(a.Kids) != len(b.Kids) {
		return disagree
	}
	least, decided := byEql, agree
	switch a.Kind {
	case api.FormInt, api.FormRatio, api.FormSingle, api.FormDouble, api.FormChar:
	case api.FormComplex:
		decided = asParts
	case api.FormString, api.FormBits:
		least = byEqual
	case api.FormCons:
		least, decided = byEqual, asParts
	case api.FormVector, api.FormArray:
		least, decided = bySimilarity, asParts
	default: // equal symbols are one node
		return disagree
	}
	if relation < least {
		return disagree
	}
	return decided
}

// areRelated reports whether two nodes are in a relation. The relation is the greatest one: a pair that has a mark is in it, unless something else speaks against it.
func areRelated(g []Node, relation, i, k int) bool {
	marks := map[[2]int]bool{}
	var open [][2]int
	ask := func(i, k int) {
		pair := [2]int{i, k}
		if i != k && !marks[pair] {
			marks[pair] = true
			open = append(open, pair)
		}
	}
	ask(i, k)
	for len(open) > 0 {
		last := len(open) - 1
		a, b := g[open[last][0]], g[open[last][1]]
		open = open[:last]
		switch agreement(relation, a, b) {
		case disagree:
			return false
		case asParts:
			for j := range a.Kids {
				ask(a.Kids[j], b.Kids[j])
			}
		}
	}
	return true
}

// related returns the error of a graph and of two indices, and otherwise whether they are in a relation.
func related(g []Node, relation, i, k int) (bool, api.Errno) {
	if e := checkIndices(g, i, k); e != api.OK {
		return false, e
	}
	return areRelated(g, relation, i, k), api.OK
}

// Eql reports whether two nodes are eql.
func Eql(g []Node, i, k int) (bool, api.Errno) {
	return related(g, byEql, i, k)
}

// Alike reports whether two nodes are equal in Lisp's sense.
func Alike(g []Node, i, k int) (bool, api.Errno) {
	return related(g, byEqual, i, k)
}

// Similar reports whether two nodes are similar, whatever they share.
func Similar(g []Node, i, k int) (bool, api.Errno) {
	return related(g, bySimilarity, i, k)
}

// Coalesce returns the graph in which similar nodes are one.
func Coalesce(g []Node) ([]Node, api.Errno) {
	if e := CheckGraph(g); e != api.OK {
		return nil, e
	}
	chosen := chosenOf(g)
	merged := slices.Clone(g)
	for i := range merged {
		kids := slices.Clone(merged[i].Kids)
		for j, k := range kids {
			kids[j] = chosen[k]
		}
		merged[i].Kids = kids
	}
	return renumbered(merged, 0), api.OK
}

// chosenOf returns, for each node, the first one of those with identity that are similar to it, or itself.
func chosenOf(g []Node) []int {
	first := map[int]int{}
	chosen := make([]int, len(g))
	for i, class := range similarClasses(g) {
		chosen[i] = i
		if !hasIdentity(g[i].Kind) {
			continue
		}
		if earlier, some := first[class]; some {
			chosen[i] = earlier
		} else {
			first[class] = i
		}
	}
	return chosen
}

// A look is what similar nodes have in common, apart from their parts.
type look struct {
	kind       int
	text, home string
	parts      int
}

// similarClasses returns a number for each node, equal ones for similar nodes. Nodes with one look begin in one class; and as long as parts of such nodes are in different classes, a class is parted.
func similarClasses(g []Node) []int {
	looks := map[look]int{}
	classes := make([]int, len(g))
	for i, n := range g {
		classes[i] = numberIn(looks, look{n.Kind, n.Text, n.Home, len(n.Kids)})
	}
	count := len(looks)
	for {
		finer, n := parted(g, classes)
		if n == count {
			return classes
		}
		classes, count = finer, n
	}
}

// numberIn returns the number of a key, the next one for a new key.
func numberIn[K comparable](numbers map[K]int, key K) int {
	n, some := numbers[key]
	if !some {
		n = len(numbers)
		numbers[key] = n
	}
	return n
}

// parted returns the classes of nodes that are in one class, and whose parts are in one each, and the number of these classes.
func parted(g []Node, classes []int) ([]int, int) {
	// A pair stands for all classes of a list up to some place: a number for those ahead, and the last one.
	lists := map[[2]int]int{}
	distinct := map[int]int{}
	finer := make([]int, len(g))
	for i, n := range g {
		list := numberIn(lists, [2]int{-1, classes[i]})
		for _, k := range n.Kids {
			list = numberIn(lists, [2]int{list, classes[k]})
		}
		finer[i] = numberIn(distinct, list)
	}
	return finer, len(distinct)
}
