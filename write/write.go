// Package write tells nodes of a graph in one line.
package write

import (
	"maps"
	"slices"
	"strconv"
	"strings"

	"grafter/graph"
	"grafter/scan"
)

type writer struct {
	graph *graph.Graph
	names map[int]int // by node: the number in its name, of those that have one
	out   strings.Builder
}

// Plain gives the plain form of a node.
func Plain(g *graph.Graph, id int) string {
	w := &writer{graph: g, names: map[int]int{}}
	walker := graph.NewWalker(g)
	w.giveNames(walker, id)
	w.tell(walker, id)
	return w.out.String()
}

// giveNames goes ahead of the telling: whether a node stands in several places
// must be known at the first of them, and its name hangs on all that have one.
func (w *writer) giveNames(walker *graph.Walker, from int) {
	walker.Walk(from, graph.Steps{
		First: func(int, graph.Place) {},
		Again: func(id int, _ graph.Place) { w.names[id] = 0 },
		End:   func(int) {},
	})
	// nodes are numbered as they begin, and so are their names
	for i, id := range slices.Sorted(maps.Keys(w.names)) {
		w.names[id] = i
	}
}

func (w *writer) tell(walker *graph.Walker, from int) {
	walker.Walk(from, graph.Steps{
		First: func(id int, at graph.Place) {
			w.lead(at)
			if _, ok := w.names[id]; ok {
				w.name('&', id)
				w.out.WriteByte(' ')
			}
			w.open(id)
		},
		Again: func(id int, at graph.Place) {
			w.lead(at)
			w.name('*', id)
		},
		End: w.shut,
	})
}

// lead writes what stands ahead of a node at its place.
func (w *writer) lead(at graph.Place) {
	if at.In == graph.Nowhere {
		return
	}
	if at.At > 0 {
		w.out.WriteString(", ")
	}
	if in := &w.graph.Nodes[at.In]; in.Kind == graph.Map {
		w.text(in.Keys[at.At])
		w.out.WriteString(": ")
	}
}

func (w *writer) name(sign byte, id int) {
	w.out.WriteByte(sign)
	w.out.WriteByte('n')
	w.out.WriteString(strconv.Itoa(w.names[id]))
}

func (w *writer) open(id int) {
	switch n := &w.graph.Nodes[id]; n.Kind {
	case graph.Text:
		w.text(n.Text)
	case graph.List:
		w.out.WriteByte('[')
	case graph.Map:
		w.out.WriteByte('{')
	}
}

func (w *writer) shut(id int) {
	switch w.graph.Nodes[id].Kind {
	case graph.List:
		w.out.WriteByte(']')
	case graph.Map:
		w.out.WriteByte('}')
	}
}

// text writes a text or a key. How it stood in the text that was read is not
// asked: a string may be a word, and is told as one.
func (w *writer) text(text string) {
	if scan.IsWord(text) {
		w.out.WriteString(text)
		return
	}
	w.out.WriteByte('"')
	w.out.WriteString(text)
	w.out.WriteByte('"')
}
