package grafter_test

import (
	"fmt"
	"iter"
	"math/big"
	"math/rand"
	"strings"
	"testing"

	"grafter/api"
	"grafter/grafter"
)

// fact is something in a text that a budget, a name or a key may shut out.
type fact struct {
	what  api.Errno // ErrNodes: a node begins; ErrAlias: a `*`; ErrAnchors: a `&`; ErrTwice: a key that is there already
	place int
	known int // the byte at which all is read that the fact hangs on
	level int
	high  int // of the node that a `*` means; 0, if there is none
}

// made is a node as the writer means it.
type made struct {
	number int    // of those that begin, from 0 on
	open   string // `[`, `{`, or nothing, of a text
	text   string
	keys   []string
	parts  []*made
	high   int
	heavy  *big.Int
}

func (m *made) end() *made {
	m.high, m.heavy = 0, big.NewInt(1)
	for _, part := range m.parts {
		m.high = max(m.high, part.high)
		m.heavy.Add(m.heavy, part.heavy)
	}
	m.high++
	return m
}

// writer makes up a text and knows all of its facts without reading it.
type writer struct {
	*rand.Rand
	text    strings.Builder
	facts   []fact
	names   map[string]*made
	inside  map[int]bool // places inside of words and strings
	nodes   int
	anchors int
	wild    bool // names that nobody has, and keys that are there already
	more    int  // how many more parts stand in brackets, most of them by a name
}

func (w *writer) put(s string) int {
	at := w.text.Len()
	w.text.WriteString(s)
	return at
}

func (w *writer) blanks() { w.put(strings.Repeat(" ", max(0, w.Intn(4)-2))) }

func (w *writer) blankLines() {
	for w.Intn(6) == 0 {
		w.blanks()
		w.put("\n")
	}
}

func (w *writer) token(s string) int {
	at := w.put(s)
	for i := at + 1; i < at+len(s); i++ {
		w.inside[i] = true
	}
	return at
}

func (w *writer) name() string { return []string{"a", "b", "a.b", "abcdefghijkl"}[w.Intn(4)] }

func (w *writer) begin(level int) *made {
	w.nodes++
	w.facts = append(w.facts, fact{what: api.ErrNodes, place: w.text.Len(), known: w.text.Len() + 1, level: level})
	return &made{number: w.nodes - 1}
}

func (w *writer) anchor() string {
	at := w.put("&")
	w.anchors++
	w.facts = append(w.facts, fact{what: api.ErrAnchors, place: at, known: at + 1})
	w.blanks()
	name := w.name()
	w.token(name)
	return name
}

func (w *writer) alias(level int) *made {
	name := w.name()
	means, ok := w.names[name]
	if !ok && !w.wild {
		return w.value(level, w.begin(level))
	}
	at := w.put("*")
	w.blanks()
	w.token(name)
	f := fact{what: api.ErrAlias, place: at, known: w.text.Len(), level: level}
	if ok {
		f.high = means.high
	} else {
		means = new(made).end()
	}
	w.facts = append(w.facts, f)
	return means
}

func (w *writer) flow(level int) *made {
	if w.Intn(3) == 0 || w.more > 0 && w.Intn(2) == 0 {
		return w.alias(level)
	}
	m := w.begin(level)
	if w.Intn(3) != 0 {
		return w.value(level, m)
	}
	name := w.anchor()
	w.put(" ")
	w.blanks()
	w.names[name] = w.value(level, m)
	return m
}

// value writes a node that has begun.
func (w *writer) value(level int, m *made) *made {
	kind := w.Intn(6)
	if level > 5 {
		kind = 0
	}
	switch kind {
	case 0, 1, 2:
		texts := []string{"x", "y1", "abcdefghijkl", `""`, `"a b"`, `"*a &b [{"`, `"abcdefghijklmnopqrst"`, `"x"`, `"abcdefghijklm"`, `"A.b_9"`}
		written := texts[w.Intn(len(texts))]
		w.token(written)
		m.text = strings.Trim(written, `"`)
	case 3, 4:
		m.open = "["
		w.brackets(level, m)
	default:
		m.open = "{"
		w.brackets(level, m)
	}
	return m.end()
}

func (w *writer) brackets(level int, m *made) {
	w.put(m.open)
	for i := range w.Intn(4 + w.more) {
		if i > 0 {
			w.blanks()
			w.put(",")
		}
		w.blanks()
		if m.open == "{" {
			w.key(m)
		}
		m.parts = append(m.parts, w.flow(level+1))
	}
	w.blanks()
	w.put(closing(m))
}

func closing(m *made) string { return map[string]string{"[": "]", "{": "}"}[m.open] }

func (w *writer) key(m *made) {
	key := fmt.Sprint([]string{"k", "k k", "abcdefghijkl"}[w.Intn(3)], len(m.keys))
	again := w.wild && len(m.keys) > 0 && w.Intn(9) == 0
	if again {
		key = m.keys[w.Intn(len(m.keys))]
	}
	written := key
	if key[0] != 'k' || key[1] == ' ' || w.Intn(2) == 0 {
		written = `"` + key + `"`
	}
	at := w.token(written)
	if again {
		w.facts = append(w.facts, fact{what: api.ErrTwice, place: at, known: w.text.Len()})
	}
	w.blanks()
	w.put(":")
	w.blanks()
	m.keys = append(m.keys, key)
}

// block writes lines; m is nil, if no name above them began it.
func (w *writer) block(depth int, m *made) *made {
	open := []string{"[", "{"}[w.Intn(2)]
	for i := range 1 + w.Intn(3) {
		if i > 0 {
			w.put("\n")
			w.blankLines()
		}
		w.put(strings.Repeat("  ", depth))
		if m == nil {
			m = w.begin(depth + 1)
		}
		m.open = open
		if open == "{" {
			w.key(m)
		} else {
			w.put("-")
			w.blanks()
		}
		m.parts = append(m.parts, w.item(depth))
		w.blanks()
	}
	return m.end()
}

func (w *writer) item(depth int) *made {
	if depth > 3 || w.Intn(2) == 0 {
		return w.flow(depth + 2)
	}
	var m *made
	name := ""
	if w.Intn(2) == 0 {
		m = w.begin(depth + 2)
		name = w.anchor()
	}
	w.blanks()
	w.put("\n")
	w.blankLines()
	m = w.block(depth+1, m)
	if name != "" {
		w.names[name] = m
	}
	return m
}

func newWriter(seed int64) (*writer, *made) {
	w := &writer{Rand: rand.New(rand.NewSource(seed)), names: map[string]*made{}, inside: map[int]bool{}}
	w.wild = w.Intn(2) == 0
	w.blankLines()
	var top *made
	if w.Intn(3) == 0 {
		top = w.flow(1)
	} else {
		top = w.block(0, nil)
	}
	if w.Intn(2) == 0 {
		w.put("\n")
		w.blankLines()
		w.blanks()
	}
	return w, top
}

// newHeavy makes up lines in each of which those above it are named often.
func newHeavy(seed int64) (*writer, *made) {
	w := &writer{Rand: rand.New(rand.NewSource(seed)), names: map[string]*made{}, inside: map[int]bool{}}
	w.more = 1 + w.Intn(6)
	top := w.begin(1)
	top.open = "["
	for range 2 + w.Intn(12) {
		w.put("- ")
		m := w.begin(2)
		name := w.anchor()
		m.open = []string{"[", "{"}[w.Intn(2)]
		w.brackets(2, m)
		w.names[name] = m.end()
		top.parts = append(top.parts, m)
		w.put("\n")
	}
	return w, top.end()
}

// sample is a text that was made up, what was meant by it, and what was read.
type sample struct {
	*writer
	text string
	top  *made
	doc  *grafter.Doc
}

// madeUp gives texts that are let in, light ones and heavy ones.
func madeUp(t *testing.T) iter.Seq[sample] {
	return func(yield func(sample) bool) {
		for seed := range int64(5000) {
			for _, write := range []func(int64) (*writer, *made){newWriter, newHeavy} {
				w, top := write(seed)
				text := w.text.String()
				d, errno, _ := grafter.Load(text, wide)
				if errno == api.OK && !yield(sample{w, text, top, d}) {
					return
				}
				if t.Failed() {
					t.Fatalf("seed %d: %q", seed, text)
				}
			}
		}
	}
}

// expect gives the first error of the facts that the first bytes of the text tell.
func (w *writer) expect(b api.Budget, bytes int) (api.Errno, int) {
	nodes, anchors := 0, 0
	for _, f := range w.facts {
		if f.known > bytes {
			continue
		}
		switch f.what {
		case api.ErrNodes:
			nodes++
			if f.level > b.Depth {
				return api.ErrDeep, f.place
			}
			if nodes > b.Nodes {
				return api.ErrNodes, f.place
			}
		case api.ErrAnchors:
			anchors++
			if anchors > b.Anchors {
				return api.ErrAnchors, f.place
			}
		case api.ErrAlias:
			if f.high == 0 {
				return api.ErrAlias, f.place
			}
			if f.level+f.high-1 > b.Depth {
				return api.ErrDeep, f.place
			}
		case api.ErrTwice:
			return api.ErrTwice, f.place
		}
	}
	return api.OK, 0
}

func (w *writer) someBudget(got *made) api.Budget {
	near := func(n, least, most int) int { return min(max(n-w.Intn(n+1)*w.Intn(2)+w.Intn(2), least), most) }
	heavy := api.MaxWeight
	if got.heavy.IsInt64() {
		heavy = int(min(got.heavy.Int64(), api.MaxWeight))
	}
	return budget(near(got.high, 1, api.MaxDepth), near(w.nodes, 1, api.MaxNodes), near(w.anchors, 0, api.MaxAnchors), near(heavy, 1, api.MaxWeight))
}

// P3 to P7: texts that are made up, whole ones, under budgets near to what they need.
func TestMadeUpTexts(t *testing.T) {
	var told [api.ErrPath]int
	for seed := range int64(20000) {
		w, got := newWriter(seed)
		text := w.text.String()
		b := w.someBudget(got)
		want, place := w.expect(b, len(text))
		if len(text) > api.MaxText {
			want, place = api.ErrLong, 0
		} else if want == api.OK && got.heavy.Cmp(big.NewInt(int64(b.Weight))) > 0 {
			want, place = api.ErrHeavy, 0
		}
		d, errno, at := grafter.Load(text, b)
		if errno != want || at != place || (d == nil) != (want != api.OK) {
			t.Fatalf("seed %d: Load(%q, %v): %d, %d, want %d, %d", seed, text, b, errno, at, want, place)
		}
		told[errno]++
		if d == nil {
			continue
		}
		if m := d.Measure(); m != budget(got.high, w.nodes, w.anchors, int(got.heavy.Int64())) {
			t.Fatalf("seed %d: Measure of %q: %v, want %v, %d, %d", seed, text, m, got, w.nodes, w.anchors)
		}
	}
	for _, errno := range []api.Errno{api.OK, api.ErrLong, api.ErrDeep, api.ErrNodes, api.ErrAnchors, api.ErrAlias, api.ErrTwice, api.ErrHeavy} {
		if told[errno] == 0 {
			t.Errorf("no text was answered by %d", errno)
		}
	}
}

// P3, P6: made up texts that are cut, or go wrong, ahead of a token or behind it.
func TestCutTexts(t *testing.T) {
	for seed := range int64(4000) {
		w, got := newWriter(seed)
		text := w.text.String()
		b := w.someBudget(got)
		b.Weight = api.MaxWeight
		for range 10 {
			cut := w.Intn(min(len(text), api.MaxText-1) + 1)
			if w.inside[cut] {
				continue
			}
			want, place := w.expect(b, cut)
			if want == api.OK {
				want, place = api.ErrText, cut
			}
			refuse(t, text[:cut]+";", b, want, place)
			if _, whole := wrongAt(text[:cut]); whole && want == api.ErrText {
				accept(t, text[:cut], b)
			} else {
				refuse(t, text[:cut], b, want, place)
			}
		}
	}
}

// P1, P3: made up texts in which one byte is another one, or is not there.
func TestChangedTexts(t *testing.T) {
	const bytes = "a\":-&*[]{}, \n;"
	for seed := range int64(20000) {
		w, _ := newWriter(seed)
		text := w.text.String()
		if len(text) > api.MaxText {
			continue
		}
		at := w.Intn(len(text))
		other := w.Intn(len(bytes))
		sameWrong(t, text[:at]+bytes[other:other+1]+text[at+1:])
		sameWrong(t, text[:at]+text[at+1:])
	}
}
