package write

import (
	"testing"

	"grafter/graph"
)

func TestPlain(t *testing.T) {
	g := &graph.Graph{}
	root, a, b, m := g.Begin(), g.Begin(), g.Begin(), g.Begin()
	g.End(b, graph.Node{Kind: graph.Text, Text: "x y"})
	g.End(a, graph.Node{Kind: graph.List, Parts: []int{b}})
	g.End(m, graph.Node{Kind: graph.Map, Keys: []string{"k", ""}, Parts: []int{b, b}})
	g.End(root, graph.Node{Kind: graph.List, Parts: []int{a, m, a}})
	for id, want := range map[int]string{
		root: `[&n0 [&n1 "x y"], {k: *n1, "": *n1}, *n0]`,
		a:    `["x y"]`,
		b:    `"x y"`,
		m:    `{k: &n0 "x y", "": *n0}`,
	} {
		if got := Plain(g, id); got != want {
			t.Errorf("%d: %s, want %s", id, got, want)
		}
	}
}

// The names of a node that is told first hang on those that begin ahead of it.
func TestNamesAreNumberedAsNodesBegin(t *testing.T) {
	g := &graph.Graph{}
	root, x, y := g.Begin(), g.Begin(), g.Begin()
	g.End(x, graph.Node{Text: "x"})
	g.End(y, graph.Node{Text: "y"})
	g.End(root, graph.Node{Kind: graph.List, Parts: []int{y, x, y, x}})
	if got := Plain(g, root); got != "[&n1 y, &n0 x, *n1, *n0]" {
		t.Error(got)
	}
}
