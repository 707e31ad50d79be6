package parse

import (
	"grafter/graph"
	"grafter/scan"
)

// width is how many blanks a block stands in by more than the one around it.
const width = 2

// block reads a node that has begun, in lines that stand in by depth pairs of
// blanks. The scanner stands at the first byte of the first of them, and in
// the end at that of the first line behind the block, or at the text's end.
func (p *parser) block(id, depth int) bool {
	n := graph.Node{Kind: graph.Map}
	if p.scan.Peek() == scan.Dash {
		n.Kind = graph.List
	}
	for {
		if !p.lead(&n) {
			return false
		}
		part, ok := p.item(depth)
		if !ok {
			return false
		}
		n.Parts = append(n.Parts, part)
		if p.scan.Peek() == scan.End || p.indent < width*depth {
			p.graph.End(id, n)
			return true
		}
		if p.indent > width*depth {
			return p.wrongByte()
		}
	}
}

// lead reads what stands ahead of an item.
func (p *parser) lead(n *graph.Node) bool {
	if n.Kind == graph.List {
		return p.expect(scan.Dash)
	}
	return p.key(n)
}

// item reads an item of a block that stands in by depth pairs, and gives the
// node that stands there.
func (p *parser) item(depth int) (int, bool) {
	if p.lineIsOver() {
		return p.blockBelow(depth + 1)
	}
	level := depth + 2
	if p.scan.Peek() == scan.Ampersand {
		return p.named(level, func(id int) bool { return p.namedItem(id, depth) })
	}
	id, ok := p.flow(level)
	return id, ok && p.endLine()
}

// namedItem reads what stands behind an item's name.
func (p *parser) namedItem(id, depth int) bool {
	if p.lineIsOver() {
		return p.goBelow(depth+1) && p.block(id, depth+1)
	}
	return p.value(id, depth+2) && p.endLine()
}

// blockBelow reads a block without a name, which begins only with the first
// byte of its first line.
func (p *parser) blockBelow(depth int) (int, bool) {
	if !p.goBelow(depth) {
		return 0, false
	}
	id, ok := p.begin(depth + 1)
	return id, ok && p.block(id, depth)
}

// goBelow goes on to the next line, with which a block must begin that stands
// in by depth pairs.
func (p *parser) goBelow(depth int) bool {
	p.indent = p.scan.NextLine()
	kind := p.scan.Peek()
	if p.indent != width*depth || kind != scan.Dash && !beginsText(kind) {
		return p.wrongByte()
	}
	return true
}

// endLine asks that nothing is left of the line, and goes on to the next one.
func (p *parser) endLine() bool {
	if !p.lineIsOver() {
		return p.wrongByte()
	}
	p.indent = p.scan.NextLine()
	return true
}

func (p *parser) lineIsOver() bool {
	kind := p.scan.Peek()
	return kind == scan.NewLine || kind == scan.End
}
