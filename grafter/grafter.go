// Package grafter: lists and maps, with parts that are used again: see DOC.md.
package grafter

import (
	"grafter/api"
	"grafter/graph"
	"grafter/parse"
	"grafter/write"
)

// Doc is what a text says.
type Doc struct {
	graph *graph.Graph
}

// Load reads a text under a budget (P3 to P6).
func Load(text string, b api.Budget) (*Doc, api.Errno, int) {
	if !isBudget(b) {
		return nil, api.ErrBudget, 0
	}
	if len(text) > api.MaxText {
		return nil, api.ErrLong, 0
	}
	g, errno, place := parse.Text(text, b)
	if errno != api.OK {
		return nil, errno, place
	}
	if g.Measure().Weight > b.Weight {
		return nil, api.ErrHeavy, 0
	}
	return &Doc{graph: g}, api.OK, 0
}

func isBudget(b api.Budget) bool {
	return within(b.Depth, 1, api.MaxDepth) &&
		within(b.Nodes, 1, api.MaxNodes) &&
		within(b.Anchors, 0, api.MaxAnchors) &&
		within(b.Weight, 1, api.MaxWeight)
}

func within(n, least, most int) bool {
	return least <= n && n <= most
}

// Measure tells what the text has (P7).
func (d *Doc) Measure() api.Budget {
	if d.isNothing() {
		return api.Budget{}
	}
	return d.graph.Measure()
}

// Plain writes it in one line (P8).
func (d *Doc) Plain() string {
	if d.isNothing() {
		return ""
	}
	return write.NewWriter(d.graph).Plain(0)
}

// Get writes what stands at a path (P9).
func (d *Doc) Get(path []string) (string, api.Errno) {
	if d.isNothing() {
		return "", api.ErrPath
	}
	id, ok := d.graph.At(path)
	if !ok {
		return "", api.ErrPath
	}
	return write.NewWriter(d.graph).Plain(id), api.OK
}

// Unfold writes it without names (P10).
func (d *Doc) Unfold(most int) (string, api.Errno) {
	if d.isNothing() {
		return "", api.ErrHeavy
	}
	line, ok := write.NewWriter(d.graph).Unfolded(0, min(most, api.MaxOut))
	if !ok {
		return "", api.ErrHeavy
	}
	return line, api.OK
}

// isNothing tells of the nil that Load gives beside an error, and of a Doc that
// it did not give: no call may panic.
func (d *Doc) isNothing() bool {
	return d == nil || d.graph == nil
}
