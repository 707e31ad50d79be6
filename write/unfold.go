package write

import "grafter/graph"

// piece is the part of the line that tells a node, without what leads to it.
type piece struct {
	start, end int
}

// Unfolded tells a node as if each place in it had a node of its own, unless
// that takes more than most bytes.
func (w *Writer) Unfolded(id, most int) (string, bool) {
	w.begin()
	w.unfold(id, most)
	if w.out.Len() > most {
		return "", false
	}
	return w.out.String(), true
}

// unfold copies what it comes to again from where it told it first. It copies
// nothing into a line that is too long already: a short text may say more than
// there is room for, and so the line grows to some two times most at the worst.
func (w *Writer) unfold(from, most int) {
	w.walker.Walk(from, graph.Steps{
		First: func(id int, at graph.Place) {
			w.lead(at)
			w.pieces[id] = piece{start: w.out.Len()}
			w.open(id)
		},
		Again: func(id int, at graph.Place) {
			if w.out.Len() > most {
				return
			}
			w.lead(at)
			w.copy(w.pieces[id])
		},
		End: func(id int) {
			w.shut(id)
			w.pieces[id] = piece{start: w.pieces[id].start, end: w.out.Len()}
		},
	})
}

func (w *Writer) copy(p piece) {
	w.out.WriteString(w.out.String()[p.start:p.end])
}
