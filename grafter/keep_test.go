package grafter

import (
	"slices"
	"testing"
	"unsafe"

	"grafter/api"
	"grafter/graph"
)

// P2: a Doc has memory of its own. The text here lies over bytes that the
// caller changes later, as no Go text may; what the Doc has must not follow.
func TestTextIsNotKept(t *testing.T) {
	bytes := []byte("{ab: &n cd, \"e f\": [\"g h\", *n]}")
	before := slices.Clone(bytes)
	d, errno, _ := Load(unsafe.String(&bytes[0], len(bytes)), api.Budget{Depth: 9, Nodes: 9, Anchors: 9, Weight: 9})
	if errno != api.OK {
		t.Fatal(errno)
	}
	if !slices.Equal(bytes, before) {
		t.Errorf("the text was written into: %q", bytes)
	}
	for i := range bytes {
		bytes[i] = '?'
	}
	want := []graph.Node{
		{Kind: graph.Map, Keys: []string{"ab", "e f"}, Parts: []int{1, 2}, High: 3, Heavy: 5},
		{Kind: graph.Text, Text: "cd", High: 1, Heavy: 1},
		{Kind: graph.List, Parts: []int{3, 1}, High: 2, Heavy: 3},
		{Kind: graph.Text, Text: "g h", High: 1, Heavy: 1},
	}
	same := func(a, b graph.Node) bool {
		return a.Kind == b.Kind && a.Text == b.Text && slices.Equal(a.Keys, b.Keys) && slices.Equal(a.Parts, b.Parts) && a.High == b.High && a.Heavy == b.Heavy
	}
	if !slices.EqualFunc(d.graph.Nodes, want, same) {
		t.Errorf("%v, want %v", d.graph.Nodes, want)
	}
}

// P2: an answer has memory of its own, too: it follows neither the text nor the
// path over which it was asked.
func TestPathIsNotKept(t *testing.T) {
	text := []byte("{ab: &n [cd], \"e f\": [\"g h\", *n, *n]}")
	d, errno, _ := Load(unsafe.String(&text[0], len(text)), api.Budget{Depth: 9, Nodes: 9, Anchors: 9, Weight: 19})
	if errno != api.OK {
		t.Fatal(errno)
	}
	key, number := []byte("e f"), []byte("0")
	path := []string{unsafe.String(&key[0], len(key)), unsafe.String(&number[0], len(number))}
	whole, plain := d.Plain(), "{ab: &n0 [cd], \"e f\": [\"g h\", *n0, *n0]}"
	list, _ := d.Get(path[:1])
	leaf, _ := d.Get(path)
	unfolded, _ := d.Unfold(99)
	line := "{ab: [cd], \"e f\": [\"g h\", [cd], [cd]]}"
	for _, bytes := range [][]byte{text, key, number} {
		for i := range bytes {
			bytes[i] = '?'
		}
	}
	if whole != plain || list != "[\"g h\", &n0 [cd], *n0]" || leaf != "\"g h\"" {
		t.Errorf("answers have changed: %q, %q, %q", whole, list, leaf)
	}
	if got, errno := d.Unfold(99); unfolded != line || got != line || errno != api.OK {
		t.Errorf("unfolded: %q, %q, %d", unfolded, got, errno)
	}
	if got, errno := d.Get([]string{"e f", "0"}); got != leaf || errno != api.OK {
		t.Errorf("%q, %d", got, errno)
	}
	if got := d.Plain(); got != plain {
		t.Errorf("%q", got)
	}
	if got, errno := d.Get(path); got != "" || errno != api.ErrPath {
		t.Errorf("a path that was changed: %q, %d", got, errno)
	}
}
