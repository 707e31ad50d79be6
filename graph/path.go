package graph

import (
	"slices"
	"strconv"
)

// At gives the node at a path that sets out from the text's node, if one
// stands there.
func (g *Graph) At(path []string) (int, bool) {
	id := 0
	for _, word := range path {
		n := &g.Nodes[id]
		i := n.find(word)
		if i < 0 {
			return 0, false
		}
		id = n.Parts[i]
	}
	return id, true
}

// find tells which part of a node a word of a path says, or -1.
func (n *Node) find(word string) int {
	switch n.Kind {
	case List:
		return number(word, len(n.Parts))
	case Map:
		return slices.Index(n.Keys, word)
	}
	return -1
}

// number reads a number below most, or gives -1. Writing it back shuts out the
// signs and noughts ahead that Atoi lets through.
func number(word string, most int) int {
	n, err := strconv.Atoi(word)
	if err != nil || n < 0 || n >= most || strconv.Itoa(n) != word {
		return -1
	}
	return n
}
