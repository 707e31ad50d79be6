package grafter

import (
	"slices"
	"testing"
	"unsafe"

	"grafter/api"
	"grafter/graph"
)

// P2: a Doc has memory of its own. The text here lies over bytes that the
// caller changes later, as no Go text may; what the Doc has must not follow.
func TestTextIsNotKept(t *testing.T) {
	bytes := []byte("{ab: &n cd, \"e f\": [\"g h\", *n]}")
	before := slices.Clone(bytes)
	d, errno, _ := Load(unsafe.String(&bytes[0], len(bytes)), api.Budget{Depth: 9, Nodes: 9, Anchors: 9, Weight: 9})
	if errno != api.OK {
		t.Fatal(errno)
	}
	if !slices.Equal(bytes, before) {
		t.Errorf("the text was written into: %q", bytes)
	}
	for i := range bytes {
		bytes[i] = '?'
	}
	want := []graph.Node{
		{Kind: graph.Map, Keys: []string{"ab", "e f"}, Parts: []int{1, 2}, High: 3, Heavy: 5},
		{Kind: graph.Text, Text: "cd", High: 1, Heavy: 1},
		{Kind: graph.List, Parts: []int{3, 1}, High: 2, Heavy: 3},
		{Kind: graph.Text, Text: "g h", High: 1, Heavy: 1},
	}
	same := func(a, b graph.Node) bool {
		return a.Kind == b.Kind && a.Text == b.Text && slices.Equal(a.Keys, b.Keys) && slices.Equal(a.Parts, b.Parts) && a.High == b.High && a.Heavy == b.Heavy
	}
	if !slices.EqualFunc(d.graph.Nodes, want, same) {
		t.Errorf("%v, want %v", d.graph.Nodes, want)
	}
}
