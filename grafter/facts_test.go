package grafter_test

import (
	"fmt"
	"math/big"
	"math/rand"
	"strings"
	"testing"

	"grafter/api"
	"grafter/grafter"
)

// fact is something in a text that a budget, a name or a key may shut out.
type fact struct {
	what  api.Errno // ErrNodes: a node begins; ErrAlias: a `*`; ErrAnchors: a `&`; ErrTwice: a key that is there already
	place int
	known int // the byte at which all is read that the fact hangs on
	level int
	high  int // of the node that a `*` means; 0, if there is none
}

type size struct {
	high  int
	heavy *big.Int
}

// writer makes up a text and knows all of its facts without reading it.
type writer struct {
	*rand.Rand
	text    strings.Builder
	facts   []fact
	names   map[string]size
	inside  map[int]bool // places inside of words and strings
	nodes   int
	anchors int
	wild    bool // names that nobody has, and keys that are there already
}

func (w *writer) put(s string) int {
	at := w.text.Len()
	w.text.WriteString(s)
	return at
}

func (w *writer) blanks() { w.put(strings.Repeat(" ", max(0, w.Intn(4)-2))) }

func (w *writer) blankLines() {
	for w.Intn(6) == 0 {
		w.blanks()
		w.put("\n")
	}
}

func (w *writer) token(s string) int {
	at := w.put(s)
	for i := at + 1; i < at+len(s); i++ {
		w.inside[i] = true
	}
	return at
}

func (w *writer) name() string { return []string{"a", "b", "a.b", "abcdefghijkl"}[w.Intn(4)] }

func (w *writer) begin(level int) {
	w.nodes++
	w.facts = append(w.facts, fact{what: api.ErrNodes, place: w.text.Len(), known: w.text.Len() + 1, level: level})
}

func (w *writer) anchor() string {
	at := w.put("&")
	w.anchors++
	w.facts = append(w.facts, fact{what: api.ErrAnchors, place: at, known: at + 1})
	w.blanks()
	name := w.name()
	w.token(name)
	return name
}

func (w *writer) alias(level int) size {
	name := w.name()
	means, ok := w.names[name]
	if !ok && !w.wild {
		return w.node(level, "", false)
	}
	at := w.put("*")
	w.blanks()
	w.token(name)
	w.facts = append(w.facts, fact{what: api.ErrAlias, place: at, known: w.text.Len(), level: level, high: means.high})
	if !ok {
		means = size{1, big.NewInt(1)}
	}
	return means
}

func (w *writer) flow(level int) size {
	if w.Intn(3) == 0 {
		return w.alias(level)
	}
	if w.Intn(3) != 0 {
		return w.node(level, "", false)
	}
	w.begin(level)
	name := w.anchor()
	w.put(" ")
	w.blanks()
	return w.node(level, name, true)
}

// node writes a value; began says that a name ahead of it began it.
func (w *writer) node(level int, name string, began bool) size {
	if !began {
		w.begin(level)
	}
	got := w.value(level)
	if name != "" {
		w.names[name] = got
	}
	return got
}

func (w *writer) value(level int) size {
	kind := w.Intn(6)
	if level > 5 {
		kind = 0
	}
	switch kind {
	case 0, 1, 2:
		w.token([]string{"x", "y1", "abcdefghijkl", `""`, `"a b"`, `"*a &b [{"`, `"abcdefghijklmnopqrst"`}[w.Intn(7)])
		return size{1, big.NewInt(1)}
	case 3, 4:
		return w.brackets("[", "]", level, func([]string) []string { return nil })
	}
	return w.brackets("{", "}", level, w.key)
}

func (w *writer) brackets(open, closing string, level int, lead func([]string) []string) size {
	got := size{0, big.NewInt(1)}
	var keys []string
	w.put(open)
	for i := range w.Intn(4) {
		if i > 0 {
			w.blanks()
			w.put(",")
		}
		w.blanks()
		keys = lead(keys)
		got = got.with(w.flow(level + 1))
	}
	w.blanks()
	w.put(closing)
	got.high++
	return got
}

func (s size) with(part size) size {
	return size{max(s.high, part.high), new(big.Int).Add(s.heavy, part.heavy)}
}

func (w *writer) key(keys []string) []string {
	key := fmt.Sprint("k", len(keys))
	again := w.wild && len(keys) > 0 && w.Intn(9) == 0
	if again {
		key = keys[w.Intn(len(keys))]
	}
	written := key
	if w.Intn(2) == 0 {
		written = `"` + key + `"`
	}
	at := w.token(written)
	if again {
		w.facts = append(w.facts, fact{what: api.ErrTwice, place: at, known: w.text.Len()})
	}
	w.blanks()
	w.put(":")
	w.blanks()
	return append(keys, key)
}

// block writes lines; began says that a name above them began it.
func (w *writer) block(depth int, began bool) size {
	got := size{0, big.NewInt(1)}
	var keys []string
	lead := w.key
	if w.Intn(2) == 0 {
		lead = func([]string) []string { w.put("-"); w.blanks(); return nil }
	}
	for i := range 1 + w.Intn(3) {
		if i > 0 {
			w.put("\n")
			w.blankLines()
		}
		w.put(strings.Repeat("  ", depth))
		if i == 0 && !began {
			w.begin(depth + 1)
		}
		keys = lead(keys)
		got = got.with(w.item(depth))
		w.blanks()
	}
	got.high++
	return got
}

func (w *writer) item(depth int) size {
	if depth > 3 || w.Intn(2) == 0 {
		return w.flow(depth + 2)
	}
	name := ""
	if w.Intn(2) == 0 {
		w.begin(depth + 2)
		name = w.anchor()
	}
	w.blanks()
	w.put("\n")
	w.blankLines()
	got := w.block(depth+1, name != "")
	if name != "" {
		w.names[name] = got
	}
	return got
}

func newWriter(seed int64) (*writer, size) {
	w := &writer{Rand: rand.New(rand.NewSource(seed)), names: map[string]size{}, inside: map[int]bool{}}
	w.wild = w.Intn(2) == 0
	w.blankLines()
	var got size
	if w.Intn(3) == 0 {
		got = w.flow(1)
	} else {
		got = w.block(0, false)
	}
	if w.Intn(2) == 0 {
		w.put("\n")
		w.blankLines()
		w.blanks()
	}
	return w, got
}

// expect gives the first error of the facts that the first bytes of the text tell.
func (w *writer) expect(b api.Budget, bytes int) (api.Errno, int) {
	nodes, anchors := 0, 0
	for _, f := range w.facts {
		if f.known > bytes {
			continue
		}
		switch f.what {
		case api.ErrNodes:
			nodes++
			if f.level > b.Depth {
				return api.ErrDeep, f.place
			}
			if nodes > b.Nodes {
				return api.ErrNodes, f.place
			}
		case api.ErrAnchors:
			anchors++
			if anchors > b.Anchors {
				return api.ErrAnchors, f.place
			}
		case api.ErrAlias:
			if f.high == 0 {
				return api.ErrAlias, f.place
			}
			if f.level+f.high-1 > b.Depth {
				return api.ErrDeep, f.place
			}
		case api.ErrTwice:
			return api.ErrTwice, f.place
		}
	}
	return api.OK, 0
}

func (w *writer) someBudget(got size) api.Budget {
	near := func(n, least, most int) int { return min(max(n-w.Intn(n+1)*w.Intn(2)+w.Intn(2), least), most) }
	heavy := api.MaxWeight
	if got.heavy.IsInt64() {
		heavy = int(min(got.heavy.Int64(), api.MaxWeight))
	}
	return budget(near(got.high, 1, api.MaxDepth), near(w.nodes, 1, api.MaxNodes), near(w.anchors, 0, api.MaxAnchors), near(heavy, 1, api.MaxWeight))
}

// P3 to P7: texts that are made up, whole ones, under budgets near to what they need.
func TestMadeUpTexts(t *testing.T) {
	var told [api.ErrPath]int
	for seed := range int64(20000) {
		w, got := newWriter(seed)
		text := w.text.String()
		b := w.someBudget(got)
		want, place := w.expect(b, len(text))
		if len(text) > api.MaxText {
			want, place = api.ErrLong, 0
		} else if want == api.OK && got.heavy.Cmp(big.NewInt(int64(b.Weight))) > 0 {
			want, place = api.ErrHeavy, 0
		}
		d, errno, at := grafter.Load(text, b)
		if errno != want || at != place || (d == nil) != (want != api.OK) {
			t.Fatalf("seed %d: Load(%q, %v): %d, %d, want %d, %d", seed, text, b, errno, at, want, place)
		}
		told[errno]++
		if d == nil {
			continue
		}
		if m := d.Measure(); m != budget(got.high, w.nodes, w.anchors, int(got.heavy.Int64())) {
			t.Fatalf("seed %d: Measure of %q: %v, want %v, %d, %d", seed, text, m, got, w.nodes, w.anchors)
		}
	}
	for _, errno := range []api.Errno{api.OK, api.ErrLong, api.ErrDeep, api.ErrNodes, api.ErrAnchors, api.ErrAlias, api.ErrTwice, api.ErrHeavy} {
		if told[errno] == 0 {
			t.Errorf("no text was answered by %d", errno)
		}
	}
}

// P3, P6: made up texts that are cut, or go wrong, ahead of a token or behind it.
func TestCutTexts(t *testing.T) {
	for seed := range int64(4000) {
		w, got := newWriter(seed)
		text := w.text.String()
		b := w.someBudget(got)
		b.Weight = api.MaxWeight
		for range 10 {
			cut := w.Intn(min(len(text), api.MaxText-1) + 1)
			if w.inside[cut] {
				continue
			}
			want, place := w.expect(b, cut)
			if want == api.OK {
				want, place = api.ErrText, cut
			}
			refuse(t, text[:cut]+";", b, want, place)
			if _, whole := wrongAt(text[:cut]); whole && want == api.ErrText {
				accept(t, text[:cut], b)
			} else {
				refuse(t, text[:cut], b, want, place)
			}
		}
	}
}

// P1, P3: made up texts in which one byte is another one, or is not there.
func TestChangedTexts(t *testing.T) {
	const bytes = "a\":-&*[]{}, \n;"
	for seed := range int64(20000) {
		w, _ := newWriter(seed)
		text := w.text.String()
		if len(text) > api.MaxText {
			continue
		}
		at := w.Intn(len(text))
		other := w.Intn(len(bytes))
		sameWrong(t, text[:at]+bytes[other:other+1]+text[at+1:])
		sameWrong(t, text[:at]+text[at+1:])
	}
}
