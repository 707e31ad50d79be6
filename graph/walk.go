package graph

// Nowhere is what a node stands in from which a walk sets out.
const Nowhere = -1

// Place is where a node stands: at which of the parts of which node.
type Place struct {
	In, At int
}

// Steps is what to do with a node when a walk comes to it first, when it comes
// to it again at another place, and when all that stand in it are behind.
type Steps struct {
	First, Again func(id int, at Place)
	End          func(id int)
}

// Walker goes through a graph, as often as it is asked to.
type Walker struct {
	graph *Graph
	met   map[int]struct{} // the nodes that this walk has come to
}

// NewWalker gives a walker of its own to who asks, so that no two walks of one
// graph know of each other.
func NewWalker(g *Graph) *Walker {
	return &Walker{graph: g, met: map[int]struct{}{}}
}

// Walk goes from a node to all that stand in it, in their order. It goes into
// each node once only, however often it stands there, so that a walk is no
// longer than the text was.
func (w *Walker) Walk(from int, s Steps) {
	clear(w.met)
	w.come(from, Place{In: Nowhere}, s)
}

func (w *Walker) come(id int, at Place, s Steps) {
	if _, ok := w.met[id]; ok {
		s.Again(id, at)
		return
	}
	w.met[id] = struct{}{}
	s.First(id, at)
	for i, part := range w.graph.Nodes[id].Parts {
		w.come(part, Place{In: id, At: i}, s)
	}
	s.End(id)
}
