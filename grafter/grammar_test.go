package grafter_test

import (
	"strings"
	"testing"

	"grafter/api"
	"grafter/grafter"
)

// grammar goes every way that the document's rules leave open, and keeps the
// furthest byte at which one of them ended: with that byte no text goes on. It
// shares nothing with the program, which goes one way only.
type grammar struct {
	text  string
	far   int
	whole bool
}

type then func(at int)

// wrongAt gives the place of ErrText, and whether there is none.
func wrongAt(text string) (int, bool) {
	g := &grammar{text: text}
	end := func(at int) { g.lineEnd(at, func(int) {}, true) }
	g.toLine(0, func(at int) {
		g.indent(at, 0, func(at int) { g.flow(at, end) })
		g.block(at, 0, end)
	})
	return g.far, g.whole
}

func (g *grammar) stop(at int) { g.far = max(g.far, at) }

func (g *grammar) one(at int, b byte, next then) {
	at = g.blanks(at)
	if at < len(g.text) && g.text[at] == b {
		next(at + 1)
		return
	}
	g.stop(at)
}

func (g *grammar) blanks(at int) int {
	for at < len(g.text) && g.text[at] == ' ' {
		at++
	}
	return at
}

func (g *grammar) word(at int, next then) {
	const bytes = "abcdefghijklmnopqrstuvwxyzABCDEFGHIJKLMNOPQRSTUVWXYZ0123456789_."
	at = g.blanks(at)
	rest := g.text[at:]
	size := len(rest) - len(strings.TrimLeft(rest, bytes))
	if size == 0 || size > 12 {
		g.stop(at + min(size, 12))
		return
	}
	next(at + size)
}

func (g *grammar) str(at int, next then) {
	g.one(at, '"', func(at int) {
		size := strings.IndexAny(g.text[at:]+"\n", "\"\n")
		if size > 20 || at+size == len(g.text) || g.text[at+size] == '\n' {
			g.stop(at + min(size, 20))
			return
		}
		next(at + size + 1)
	})
}

func (g *grammar) key(at int, next then) {
	colon := func(at int) { g.one(at, ':', next) }
	g.word(at, colon)
	g.str(at, colon)
}

func (g *grammar) flow(at int, next then) {
	g.one(at, '*', func(at int) { g.word(at, next) })
	g.one(at, '&', func(at int) { g.word(at, func(at int) { g.value(at, next) }) })
	g.value(at, next)
}

func (g *grammar) value(at int, next then) {
	g.word(at, next)
	g.str(at, next)
	g.one(at, '[', func(at int) { g.many(at, ']', g.flow, next) })
	g.one(at, '{', func(at int) {
		g.many(at, '}', func(at int, next then) { g.key(at, func(at int) { g.flow(at, next) }) }, next)
	})
}

func (g *grammar) many(at int, closing byte, each func(int, then), next then) {
	g.one(at, closing, next)
	g.some(at, closing, each, next)
}

func (g *grammar) some(at int, closing byte, each func(int, then), next then) {
	each(at, func(at int) {
		g.one(at, closing, next)
		g.one(at, ',', func(at int) { g.some(at, closing, each, next) })
	})
}

// toLine passes lines of blanks and stands at the beginning of the next one.
func (g *grammar) toLine(at int, next then) {
	for end := g.blanks(at); end < len(g.text) && g.text[end] == '\n'; end = g.blanks(at) {
		at = end + 1
	}
	next(at)
}

func (g *grammar) lineEnd(at int, next then, last bool) {
	at = g.blanks(at)
	if at < len(g.text) && g.text[at] != '\n' {
		g.stop(at)
		return
	}
	g.toLine(at, func(at int) {
		if end := g.blanks(at); end == len(g.text) {
			g.whole = g.whole || last
		}
		g.stop(g.blanks(at))
		next(at)
	})
}

func (g *grammar) indent(at, depth int, next then) {
	first := g.blanks(at)
	if first-at != 2*depth || first == len(g.text) {
		g.stop(first)
		return
	}
	next(first)
}

func (g *grammar) block(at, depth int, next then) {
	g.lines(at, depth, func(at int, next then) { g.one(at, '-', next) }, next)
	g.lines(at, depth, g.key, next)
}

func (g *grammar) lines(at, depth int, lead func(int, then), next then) {
	g.indent(at, depth, func(at int) {
		lead(at, func(at int) {
			g.item(at, depth, func(at int) {
				next(at)
				g.lineEnd(at, func(at int) { g.lines(at, depth, lead, next) }, false)
			})
		})
	})
}

func (g *grammar) item(at, depth int, next then) {
	below := func(at int) { g.lineEnd(at, func(at int) { g.block(at, depth+1, next) }, false) }
	g.flow(at, next)
	g.one(at, '&', func(at int) { g.word(at, below) })
	below(at)
}

// sameWrong holds Load against the grammar. Where Load tells another error, it
// must stand ahead of the wrong byte.
func sameWrong(t *testing.T, text string) {
	t.Helper()
	far, whole := wrongAt(text)
	d, errno, at := grafter.Load(text, wide)
	switch {
	case (d != nil) != (errno == api.OK), errno == api.OK && at != 0, at < 0 || at > len(text):
		t.Fatalf("Load(%q): %v, %d, %d", text, d, errno, at)
	case errno == api.ErrText && (whole || at != far), errno == api.OK && !whole, errno != api.OK && errno != api.ErrText && !whole && at >= far:
		t.Fatalf("Load(%q): %d, %d; the grammar: wrong at %d, or whole: %v", text, errno, at, far, whole)
	}
}

func TestGrammarItself(t *testing.T) {
	for text, want := range map[string]int{"": 0, "a:": 2, "[1,]": 3, "-\n   x: 1": 5, "a: 1\n\n   b: 2": 9, "abcdefghijklm": 12, "\"a\n\"": 2, "&a\n  b: 1": 2} {
		if at, whole := wrongAt(text); whole || at != want {
			t.Errorf("%q: %d, %v, want %d", text, at, whole, want)
		}
	}
	for _, text := range []string{"a", "a:\n  - 1\n  -\n    b: 2", "- &p [1, 2]\n- *p\n- {k: *p}", "a: &p\n\n  - \"\"\n \n"} {
		if at, whole := wrongAt(text); !whole {
			t.Errorf("%q: %d", text, at)
		}
	}
}

// every calls f with all texts of up to most of these pieces.
func every(pieces []string, most int, text string, f func(string)) {
	f(text)
	if most == 0 {
		return
	}
	for _, piece := range pieces {
		every(pieces, most-1, text+piece, f)
	}
}

// P1, P3, P4, P6: all short texts.
func TestAllShortTexts(t *testing.T) {
	check := func(text string) { sameWrong(t, text) }
	every(strings.Split("a,\",:,-,&,*,[,],{,},;, ,\n", ","), 4, "", check)
	every([]string{",", "a", "[", "]", "{", "}", ":"}, 6, "[", check)
	every([]string{" ", "\n", "-", "a", "a:", "&a"}, 6, "", check)
	every([]string{"\n", "\n  ", "\n    ", "\n ", "- a", "-", "a: b", "c:", "d: &e"}, 5, "", check)
}
