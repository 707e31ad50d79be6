package write

import (
	"testing"

	"grafter/graph"
)

// shared is [&a [&b "x y"], {k: *b, "": *b}, *a].
func shared() *graph.Graph {
	g := &graph.Graph{}
	root, a, b, m := g.Begin(), g.Begin(), g.Begin(), g.Begin()
	g.End(b, graph.Node{Kind: graph.Text, Text: "x y"})
	g.End(a, graph.Node{Kind: graph.List, Parts: []int{b}})
	g.End(m, graph.Node{Kind: graph.Map, Keys: []string{"k", ""}, Parts: []int{b, b}})
	g.End(root, graph.Node{Kind: graph.List, Parts: []int{a, m, a}})
	return g
}

// One writer is asked for all: it knows nothing of what it told ahead of that.
func TestWriter(t *testing.T) {
	w := NewWriter(shared())
	for range 2 {
		for id, want := range [][2]string{
			{`[&n0 [&n1 "x y"], {k: *n1, "": *n1}, *n0]`, `[["x y"], {k: "x y", "": "x y"}, ["x y"]]`},
			{`["x y"]`, `["x y"]`},
			{`"x y"`, `"x y"`},
			{`{k: &n0 "x y", "": *n0}`, `{k: "x y", "": "x y"}`},
		} {
			if got := w.Plain(id); got != want[0] {
				t.Errorf("%d: %s, want %s", id, got, want[0])
			}
			for most := -1; most < 99; most++ {
				line, ok := w.Unfolded(id, most)
				if most >= len(want[1]) && (!ok || line != want[1]) || most < len(want[1]) && (ok || line != "") {
					t.Errorf("%d unfolded to %d bytes: %q, %v, want %q", id, most, line, ok, want[1])
				}
			}
		}
	}
}

// A graph that unfolds to more than can be counted is not gone into again and again.
func TestUnfoldedEnds(t *testing.T) {
	g := &graph.Graph{}
	for range 200 {
		g.Begin()
	}
	g.End(199, graph.Node{Text: "x"})
	for id := 198; id >= 0; id-- {
		g.End(id, graph.Node{Kind: graph.List, Parts: []int{id + 1, id + 1, id + 1}})
	}
	for _, most := range []int{0, 1, 1000, 1000000} {
		w := NewWriter(g)
		if line, ok := w.Unfolded(0, most); ok || line != "" {
			t.Errorf("%d: %d bytes, %v", most, len(line), ok)
		}
		if size := w.out.Len(); size > 2*most+1000 {
			t.Errorf("%d: %d bytes were written", most, size)
		}
	}
}

// The names of a node that is told first hang on those that begin ahead of it.
func TestNamesAreNumberedAsNodesBegin(t *testing.T) {
	g := &graph.Graph{}
	root, x, y := g.Begin(), g.Begin(), g.Begin()
	g.End(x, graph.Node{Text: "x"})
	g.End(y, graph.Node{Text: "y"})
	g.End(root, graph.Node{Kind: graph.List, Parts: []int{y, x, y, x}})
	if got := NewWriter(g).Plain(root); got != "[&n1 y, &n0 x, *n1, *n0]" {
		t.Error(got)
	}
}
