// Package write tells nodes of a graph in one line.
package write

import (
	"maps"
	"slices"
	"strconv"
	"strings"

	"grafter/graph"
	"grafter/scan"
)

// Writer tells nodes of a graph, as often as it is asked to.
type Writer struct {
	graph  *graph.Graph
	walker *graph.Walker
	names  map[int]int   // by node: the number in its name, of those that have one
	pieces map[int]piece // by node: where in the line it was told first
	out    strings.Builder
}

// NewWriter gives a writer of its own to who asks, so that no two tellings of
// one graph know of each other.
func NewWriter(g *graph.Graph) *Writer {
	return &Writer{
		graph:  g,
		walker: graph.NewWalker(g),
		names:  map[int]int{},
		pieces: map[int]piece{},
	}
}

// begin forgets all of what was told last.
func (w *Writer) begin() {
	clear(w.names)
	clear(w.pieces)
	w.out.Reset()
}

// Plain gives the plain form of a node.
func (w *Writer) Plain(id int) string {
	w.begin()
	w.giveNames(id)
	w.tell(id)
	return w.out.String()
}

// giveNames goes ahead of the telling: whether a node stands in several places
// must be known at the first of them, and its name hangs on all that have one.
func (w *Writer) giveNames(from int) {
	w.walker.Walk(from, graph.Steps{
		First: func(int, graph.Place) {},
		Again: func(id int, _ graph.Place) { w.names[id] = 0 },
		End:   func(int) {},
	})
	// nodes are numbered as they begin, and so are their names
	for i, id := range slices.Sorted(maps.Keys(w.names)) {
		w.names[id] = i
	}
}

func (w *Writer) tell(from int) {
	w.walker.Walk(from, graph.Steps{
		First: func(id int, at graph.Place) {
			w.lead(at)
			if _, ok := w.names[id]; ok {
				w.name('&', id)
				w.out.WriteByte(' ')
			}
			w.open(id)
		},
		Again: func(id int, at graph.Place) {
			w.lead(at)
			w.name('*', id)
		},
		End: w.shut,
	})
}

// lead writes what stands ahead of a node at its place.
func (w *Writer) lead(at graph.Place) {
	if at.In == graph.Nowhere {
		return
	}
	if at.At > 0 {
		w.out.WriteString(", ")
	}
	if in := &w.graph.Nodes[at.In]; in.Kind == graph.Map {
		w.text(in.Keys[at.At])
		w.out.WriteString(": ")
	}
}

func (w *Writer) name(sign byte, id int) {
	w.out.WriteByte(sign)
	w.out.WriteByte('n')
	w.out.WriteString(strconv.Itoa(w.names[id]))
}

func (w *Writer) open(id int) {
	switch n := &w.graph.Nodes[id]; n.Kind {
	case graph.Text:
		w.text(n.Text)
	case graph.List:
		w.out.WriteByte('[')
	case graph.Map:
		w.out.WriteByte('{')
	}
}

func (w *Writer) shut(id int) {
	switch w.graph.Nodes[id].Kind {
	case graph.List:
		w.out.WriteByte(']')
	case graph.Map:
		w.out.WriteByte('}')
	}
}

// text writes a text or a key. How it stood in the text that was read is not
// asked: a string may be a word, and is told as one.
func (w *Writer) text(text string) {
	if scan.IsWord(text) {
		w.out.WriteString(text)
		return
	}
	w.out.WriteByte('"')
	w.out.WriteString(text)
	w.out.WriteByte('"')
}
