// Package parse reads a text into a graph, and stops at the first byte that is
// wrong or above the budget.
package parse

import (
	"slices"
	"strings"

	"grafter/api"
	"grafter/graph"
	"grafter/scan"
)

// parser reads from the first byte to the last and never back, so that the
// first fault it comes to is the first one by its place. Its methods answer
// whether all went well; if not, errno and place tell the fault.
type parser struct {
	scan   scan.Scanner
	budget api.Budget
	graph  *graph.Graph
	names  map[string]int // the number of the node that has the name by now
	indent int            // by how many blanks the line stands in
	errno  api.Errno
	place  int
}

// Text reads a whole text. It does not weigh: that is asked only when nothing
// else is wrong.
func Text(text string, b api.Budget) (*graph.Graph, api.Errno, int) {
	p := &parser{
		scan:   scan.New(text),
		budget: b,
		graph:  &graph.Graph{},
		names:  map[string]int{},
	}
	if !p.text() {
		return nil, p.errno, p.place
	}
	return p.graph, api.OK, 0
}

func (p *parser) text() bool {
	p.indent = p.scan.NextLine()
	if p.indent != 0 {
		return p.wrongByte()
	}
	if !p.topNode() {
		return false
	}
	if p.scan.Peek() != scan.End {
		return p.wrongByte()
	}
	return true
}

func (p *parser) topNode() bool {
	if p.blockAhead() {
		id, ok := p.begin(1)
		return ok && p.block(id, 0)
	}
	_, ok := p.flow(1)
	return ok && p.endLine()
}

// blockAhead looks behind the first word or string: only a colon there tells a
// map from a text. One that is wrong counts as a text, which is wrong at the
// same byte.
func (p *parser) blockAhead() bool {
	ahead := p.scan
	switch ahead.Peek() {
	case scan.Dash:
		return true
	case scan.Word, scan.String:
		_, ok := ahead.Read()
		return ok && ahead.Peek() == scan.Colon
	}
	return false
}

// begin asks the budget for a node that begins where the scanner stands.
func (p *parser) begin(level int) (int, bool) {
	if level > p.budget.Depth {
		return 0, p.fail(api.ErrDeep, p.scan.Place())
	}
	if len(p.graph.Nodes) >= p.budget.Nodes {
		return 0, p.fail(api.ErrNodes, p.scan.Place())
	}
	return p.graph.Begin(), true
}

// named reads a node that begins with `&`. What may stand behind the name is
// not the same in a flow and in a block's line: rest reads it.
func (p *parser) named(level int, rest func(id int) bool) (int, bool) {
	id, ok := p.begin(level)
	if !ok {
		return 0, false
	}
	if p.graph.Anchors >= p.budget.Anchors {
		return 0, p.fail(api.ErrAnchors, p.scan.Place())
	}
	p.graph.Anchors++
	p.scan.Skip()
	name, ok := p.word()
	if !ok || !rest(id) {
		return 0, false
	}
	p.takeOver(name, id)
	return id, true
}

// takeOver is called at a node's end, not at its `&`: till then the name still
// means the node that had it.
func (p *parser) takeOver(name string, id int) {
	delete(p.names, name)
	p.names[name] = id
}

func (p *parser) alias(level int) (int, bool) {
	star := p.scan.Place()
	p.scan.Skip()
	name, ok := p.word()
	if !ok {
		return 0, false
	}
	id, ok := p.names[name]
	if !ok {
		return 0, p.fail(api.ErrAlias, star)
	}
	if level+p.graph.Nodes[id].High-1 > p.budget.Depth {
		return 0, p.fail(api.ErrDeep, star)
	}
	return id, true
}

func (p *parser) word() (string, bool) {
	if p.scan.Peek() != scan.Word {
		return "", p.wrongByte()
	}
	return p.read()
}

// read gives the text of a word or string in memory of its own: it may be kept
// in the graph, and the text that was handed in may not.
func (p *parser) read() (string, bool) {
	text, ok := p.scan.Read()
	if !ok {
		return "", p.wrongByte()
	}
	return strings.Clone(text), true
}

// key reads a key and its colon into a map. The colon comes last: a key that
// the map has already is told whatever stands behind it.
func (p *parser) key(n *graph.Node) bool {
	if !beginsText(p.scan.Peek()) {
		return p.wrongByte()
	}
	first := p.scan.Place()
	text, ok := p.read()
	if !ok {
		return false
	}
	if slices.Contains(n.Keys, text) {
		return p.fail(api.ErrTwice, first)
	}
	n.Keys = append(n.Keys, text)
	return p.expect(scan.Colon)
}

func (p *parser) expect(kind scan.Kind) bool {
	if p.scan.Peek() != kind {
		return p.wrongByte()
	}
	p.scan.Skip()
	return true
}

func (p *parser) wrongByte() bool {
	return p.fail(api.ErrText, p.scan.Place())
}

func (p *parser) fail(errno api.Errno, place int) bool {
	p.errno, p.place = errno, place
	return false
}

func beginsText(kind scan.Kind) bool {
	return kind == scan.Word || kind == scan.String
}
