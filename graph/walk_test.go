package graph

import (
	"fmt"
	"strings"
	"testing"
)

// shared is [&a [&b x, *b], {k: *b}, *a].
func shared() *Graph {
	g := &Graph{}
	root, a, b, m := g.Begin(), g.Begin(), g.Begin(), g.Begin()
	g.End(b, Node{Kind: Text, Text: "x"})
	g.End(a, Node{Kind: List, Parts: []int{b, b}})
	g.End(m, Node{Kind: Map, Keys: []string{"k"}, Parts: []int{b}})
	g.End(root, Node{Kind: List, Parts: []int{a, m, a}})
	return g
}

func steps(w *Walker, from int) string {
	var out []string
	add := func(what string) func(int, Place) {
		return func(id int, at Place) { out = append(out, fmt.Sprint(what, id, "@", at.In, ".", at.At)) }
	}
	w.Walk(from, Steps{First: add("first"), Again: add("again"), End: func(id int) { out = append(out, fmt.Sprint("end", id)) }})
	return strings.Join(out, " ")
}

func TestWalk(t *testing.T) {
	w := NewWalker(shared())
	for range 2 { // a walk knows nothing of the one ahead of it
		for from, want := range []string{
			"first0@-1.0 first1@0.0 first2@1.0 end2 again2@1.1 end1 first3@0.1 again2@3.0 end3 again1@0.2 end0",
			"first1@-1.0 first2@1.0 end2 again2@1.1 end1",
			"first2@-1.0 end2",
			"first3@-1.0 first2@3.0 end2 end3",
		} {
			if got := steps(w, from); got != want {
				t.Errorf("from %d: %s, want %s", from, got, want)
			}
		}
	}
}

// A graph that unfolds to more than can be counted is gone through all the same.
func TestWalkEnds(t *testing.T) {
	g := &Graph{}
	for range 100 {
		g.Begin()
	}
	g.End(99, Node{})
	for id := 98; id >= 0; id-- {
		g.End(id, Node{Kind: List, Parts: []int{id + 1, id + 1, id + 1}})
	}
	var first, again, end int
	NewWalker(g).Walk(0, Steps{
		First: func(int, Place) { first++ },
		Again: func(int, Place) { again++ },
		End:   func(int) { end++ },
	})
	if first != 100 || again != 198 || end != 100 {
		t.Errorf("%d, %d, %d", first, again, end)
	}
}

func TestAt(t *testing.T) {
	g := shared()
	for path, want := range map[string]int{"": 0, "0": 1, "0 0": 2, "0 1": 2, "1": 3, "1 k": 2, "2": 1, "2 1": 2} {
		if got, ok := g.At(strings.Fields(path)); got != want || !ok {
			t.Errorf("%q: %d, %v, want %d", path, got, ok, want)
		}
	}
	for _, path := range []string{"3", "-1", "00", "+0", "k", "1 0", "1 K", "1 k 0", "0 2", "0 0 0"} {
		if got, ok := g.At(strings.Fields(path)); got != 0 || ok {
			t.Errorf("%q: %d, %v", path, got, ok)
		}
	}
}
