package parse

import (
	"grafter/graph"
	"grafter/scan"
)

// flow reads what stands in one line, and gives the node that stands there: a
// new one, or by `*` one that has ended.
func (p *parser) flow(level int) (int, bool) {
	kind := p.scan.Peek()
	switch {
	case kind == scan.Star:
		return p.alias(level)
	case kind == scan.Ampersand:
		return p.named(level, func(id int) bool { return p.value(id, level) })
	case !beginsValue(kind):
		return 0, p.wrongByte()
	}
	id, ok := p.begin(level)
	return id, ok && p.value(id, level)
}

// value reads a node that has begun, in one line.
func (p *parser) value(id, level int) bool {
	var n graph.Node
	ok := false
	switch p.scan.Peek() {
	case scan.Word, scan.String:
		n.Kind = graph.Text
		n.Text, ok = p.read()
	case scan.OpenList:
		n.Kind = graph.List
		ok = p.brackets(&n, scan.CloseList, level)
	case scan.OpenMap:
		n.Kind = graph.Map
		ok = p.brackets(&n, scan.CloseMap, level)
	default:
		ok = p.wrongByte()
	}
	if ok {
		p.graph.End(id, n)
	}
	return ok
}

// brackets reads from the opening bracket, at which the scanner stands, to the
// closing one.
func (p *parser) brackets(n *graph.Node, closing scan.Kind, level int) bool {
	p.scan.Skip()
	if p.scan.Peek() == closing {
		p.scan.Skip()
		return true
	}
	for {
		if n.Kind == graph.Map && !p.key(n) {
			return false
		}
		part, ok := p.flow(level + 1)
		if !ok {
			return false
		}
		n.Parts = append(n.Parts, part)
		if p.scan.Peek() != scan.Comma {
			return p.expect(closing)
		}
		p.scan.Skip()
	}
}

func beginsValue(kind scan.Kind) bool {
	return beginsText(kind) || kind == scan.OpenList || kind == scan.OpenMap
}
