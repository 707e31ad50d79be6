package graph

import (
	"testing"

	"grafter/api"
)

func TestEndMeasures(t *testing.T) {
	g := &Graph{}
	root, leaf, list := g.Begin(), g.Begin(), g.Begin()
	g.End(leaf, Node{Kind: Text, Text: "x"})
	g.End(list, Node{Kind: List, Parts: []int{leaf, leaf}})
	g.End(root, Node{Kind: Map, Keys: []string{"a", "b"}, Parts: []int{leaf, list}})
	g.Anchors = 1
	if got, want := g.Measure(), (api.Budget{Depth: 3, Nodes: 3, Anchors: 1, Weight: 5}); got != want {
		t.Errorf("%v, want %v", got, want)
	}
}

func TestWeightIsCutAboveEveryBudget(t *testing.T) {
	g := &Graph{}
	g.End(g.Begin(), Node{})
	for range 100 {
		last := len(g.Nodes) - 1
		g.End(g.Begin(), Node{Kind: List, Parts: []int{last, last, last}})
	}
	if got := g.Nodes[100].Heavy; got != api.MaxWeight+1 {
		t.Errorf("%d", got)
	}
	if got := g.Nodes[100].High; got != 101 {
		t.Errorf("%d", got)
	}
}
