// Package graph keeps the nodes of a text, and how high and heavy they are.
package graph

import "grafter/api"

// Kind tells nodes apart.
type Kind int

const (
	Text Kind = iota
	List
	Map
)

// tooHeavy stands for every weight above MaxWeight: no budget lets one in, and
// a text may well say more than 64 bits can count.
const tooHeavy = api.MaxWeight + 1

// Node is a text, a list or a map.
type Node struct {
	Kind  Kind
	Text  string   // of a text
	Keys  []string // of a map, in their order
	Parts []int    // the numbers of the nodes that stand in it; of a map, one for each key
	High  int
	Heavy int
}

// Graph has the nodes in the order in which they begin, so that a node's
// number says where it stands in this order, and the text's node is number 0.
type Graph struct {
	Nodes   []Node
	Anchors int
}

// Begin makes room for a node that is still being read.
func (g *Graph) Begin() int {
	g.Nodes = append(g.Nodes, Node{})
	return len(g.Nodes) - 1
}

// End puts a node into its room. All that stand in it have ended, so that it
// can be measured at once, and never has to be again.
func (g *Graph) End(id int, n Node) {
	n.High, n.Heavy = 0, 1
	for _, part := range n.Parts {
		n.High = max(n.High, g.Nodes[part].High)
		n.Heavy = min(n.Heavy+g.Nodes[part].Heavy, tooHeavy)
	}
	n.High++
	g.Nodes[id] = n
}

// Measure is the least budget that lets the graph in.
func (g *Graph) Measure() api.Budget {
	root := g.Nodes[0]
	return api.Budget{
		Depth:   root.High,
		Nodes:   len(g.Nodes),
		Anchors: g.Anchors,
		Weight:  root.Heavy,
	}
}
