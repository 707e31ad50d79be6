package grafter_test

import (
	"math"
	"strings"
	"testing"

	"grafter/api"
	"grafter/grafter"
)

// answers are what a Doc says when it is asked for all.
type answers struct {
	measure api.Budget
	plain   string
	line    string
	errno   api.Errno
}

func ask(d *grafter.Doc) answers {
	line, errno := d.Unfold(math.MaxInt)
	return answers{d.Measure(), d.Plain(), line, errno}
}

// someTexts are let in under the widest budget, with and without names, in
// lines and in brackets, light and heavy.
func someTexts() []string {
	thousand, _ := ofLength(api.MaxText, true)
	more, _ := ofLength(api.MaxText+1, false)
	most, _ := ofLength(api.MaxOut, false)
	return []string{
		"a", "\"\"", "[]", "{}", "&a x", "\n\n\"a b\" \n", "[a, [b], {c: d}]", "[[[[]]]]", "{\"\": {\"\": \"\"}}",
		"a: 1\nb: [x, \"y z\"]", "- &p [1, 2]\n- *p\n- {k: *p}", "a:\n  - 1\n  -\n    b: 2",
		"[&a x, &b [*a, *a], *b, *a]", "[&a [&b x], *b, *a]", "[&a x, &a [*a], *a]", "[&a [&a x, *a], *a]", "[&a x, &b y, z]", "[&a [x, y], [*a, *a]]", "- &p\n  - a\n-\n  k: *p", "[&n1 x, *n1, &n0 y, *n0]",
		"a: &p\n  x: 1\n  y: &q\n    - &r \"2 3\"\n    - *r\nb: *p\nc:\n  - *q\n  - *p\n  - []",
		"- &a\n  - &b\n    - &c\n      - x\n- *c\n- *a\n- *b",
		strings.Repeat("[", 20) + strings.Repeat("]", 20), "[&p [[a]], " + strings.Repeat("[", 16) + "*p" + strings.Repeat("]", 17),
		"[" + strings.Repeat("a,", 498) + "a]", "[" + strings.Repeat("&a x,", 100) + "*a]",
		bomb(3, 3), bomb(18, 3), bomb(11, 10), exactly(api.MaxWeight), thousand, more, most,
	}
}

// P11: what is let in under one budget is let in under any that is greater, and says the same.
func TestGreaterBudgetsLetIn(t *testing.T) {
	for _, text := range someTexts() {
		first := accept(t, text, wide)
		least, want := first.Measure(), ask(first)
		for i := range 81 {
			grow := func(n, most, times int) int { return [3]int{n, min(n+1, most), most}[i/times%3] }
			b := budget(grow(least.Depth, api.MaxDepth, 1), grow(least.Nodes, api.MaxNodes, 3), grow(least.Anchors, api.MaxAnchors, 9), grow(least.Weight, api.MaxWeight, 27))
			if got := ask(accept(t, text, b)); got != want {
				t.Errorf("%.70q under %v: %v, want %v", text, b, got, want)
			}
		}
	}
}

// lessOfEach gives what Load answers under budgets that lack one of one of the four.
func lessOfEach(b api.Budget) map[api.Budget]api.Errno {
	less := map[api.Budget]api.Errno{
		budget(b.Depth-1, b.Nodes, b.Anchors, b.Weight): api.ErrDeep,
		budget(b.Depth, b.Nodes-1, b.Anchors, b.Weight): api.ErrNodes,
		budget(b.Depth, b.Nodes, b.Anchors-1, b.Weight): api.ErrAnchors,
		budget(b.Depth, b.Nodes, b.Anchors, b.Weight-1): api.ErrHeavy,
	}
	for b := range less {
		if b.Depth < 1 || b.Nodes < 1 || b.Anchors < 0 || b.Weight < 1 {
			less[b] = api.ErrBudget
		}
	}
	return less
}

// needsItsMeasure asks that Measure is the least budget of a text: with one
// less of one it is shut out, however much there is of the others.
func needsItsMeasure(t *testing.T, text string) {
	t.Helper()
	least := accept(t, text, wide).Measure()
	accept(t, text, least)
	for b, want := range lessOfEach(least) {
		rest := b
		if b.Depth == least.Depth {
			rest.Depth = api.MaxDepth
		}
		if b.Nodes == least.Nodes {
			rest.Nodes = api.MaxNodes
		}
		if b.Anchors == least.Anchors {
			rest.Anchors = api.MaxAnchors
		}
		if b.Weight == least.Weight {
			rest.Weight = api.MaxWeight
		}
		for _, b := range []api.Budget{b, rest} {
			if d, errno, _ := grafter.Load(text, b); d != nil || errno != want {
				t.Errorf("Load(%.70q, %v): %d, want %d", text, b, errno, want)
			}
		}
	}
}

// P11: Measure is the least budget under which a text is let in.
func TestMeasureIsLeast(t *testing.T) {
	for _, text := range someTexts() {
		needsItsMeasure(t, text)
	}
}

// plainSaysTheSame asks that the plain form is a text that says the same, and
// tells whether it is short enough to be asked.
func plainSaysTheSame(t *testing.T, d *grafter.Doc) bool {
	t.Helper()
	before := ask(d)
	if len(before.plain) > api.MaxText {
		refuse(t, before.plain, wide, api.ErrLong, 0)
		return false
	}
	after := ask(accept(t, before.plain, before.measure))
	if after.measure.Anchors != strings.Count(noStrings(before.plain), "&") {
		t.Errorf("%.70q: %d names", before.plain, after.measure.Anchors)
	}
	after.measure.Anchors = before.measure.Anchors // names that nobody uses are gone
	if after != before {
		t.Errorf("%.70q says %v, want %v", before.plain, after, before)
	}
	return true
}

// noStrings takes the strings out of a line.
func noStrings(line string) string {
	out := ""
	for i, part := range strings.Split(line, `"`) {
		if i%2 == 0 {
			out += part
		}
	}
	return out
}

// P11: the plain form, where it is no longer than MaxText, is a text that says the same.
func TestPlainFormSaysTheSame(t *testing.T) {
	for _, text := range someTexts() {
		plainSaysTheSame(t, accept(t, text, wide))
	}
	for word, short := range map[string]bool{"a": true, "aa": true, "aaa": false} {
		d := accept(t, "["+strings.Repeat("a,", 332)+word+"]", wide) // its plain form has 998 bytes and those of the word
		if plainSaysTheSame(t, d) != short {
			t.Errorf("%d bytes", len(d.Plain()))
		}
	}
}

// weigh counts the nodes in an unfolded line.
func weigh(line string) int {
	nodes := 0
	for i := 0; i < len(line); {
		size := 1
		switch line[i] {
		case '[', '{':
			nodes++
		case ']', '}', ',', ':', ' ':
		case '"':
			size = strings.IndexByte(line[i+1:], '"') + 2
			nodes++
		default:
			size = strings.IndexAny(line[i:]+" ", "]},: ")
			nodes++
		}
		i += size
		if strings.HasPrefix(line[i:], ": ") {
			nodes-- // it was a key
		}
	}
	return nodes
}

// unfoldedWeighsTheSame asks that what is unfolded is as heavy as Measure says,
// and, where it is a text, that it is one which says so.
func unfoldedWeighsTheSame(t *testing.T, d *grafter.Doc) (told, read bool) {
	t.Helper()
	m := d.Measure()
	line, errno := d.Unfold(api.MaxOut)
	if errno != api.OK {
		return false, false
	}
	if got := weigh(line); got != m.Weight {
		t.Errorf("%.70q has %d nodes, want %d", line, got, m.Weight)
	}
	if len(line) > api.MaxText {
		return true, false
	}
	want := answers{measure: budget(m.Depth, m.Weight, 0, m.Weight), plain: line, line: line}
	if got := ask(accept(t, line, want.measure)); got != want {
		t.Errorf("%.70q says %v, want %v", line, got, want)
	}
	return true, true
}

// P11: what is unfolded is as heavy as Measure says.
func TestUnfoldedWeighsTheSame(t *testing.T) {
	for _, text := range someTexts() {
		unfoldedWeighsTheSame(t, accept(t, text, wide))
	}
	for bytes := api.MaxText - 2; bytes <= api.MaxText+2; bytes++ {
		text, _ := ofLength(bytes, true)
		if told, read := unfoldedWeighsTheSame(t, accept(t, text, wide)); !told || read != (bytes <= api.MaxText) {
			t.Errorf("%d bytes: %v, %v", bytes, told, read)
		}
	}
}

// between gives a budget that lies between two, at random.
func (w *writer) between(a, b api.Budget) api.Budget {
	some := func(a, b int) int { return a + w.Intn(b-a+1)*w.Intn(2) }
	return budget(some(a.Depth, b.Depth), some(a.Nodes, b.Nodes), some(a.Anchors, b.Anchors), some(a.Weight, b.Weight))
}

// P11: budgets only shut out: texts that are made up, under budgets near to
// what they need, and under greater and lesser ones.
func TestMadeUpBudgets(t *testing.T) {
	in, out := 0, 0
	for seed := range int64(20000) {
		w, top := newWriter(seed)
		text := w.text.String()
		b := w.someBudget(top)
		d, errno, _ := grafter.Load(text, b)
		for range 5 {
			if errno == api.OK {
				greater := w.between(b, wide)
				if got, want := ask(accept(t, text, greater)), ask(d); got != want {
					t.Fatalf("seed %d: %q says %v under %v, want %v", seed, text, got, greater, want)
				}
				in++
				continue
			}
			lesser := w.between(budget(1, 1, 0, 1), b)
			if d, errno, _ := grafter.Load(text, lesser); d != nil || errno == api.OK {
				t.Fatalf("seed %d: %q is let in under %v, and not under %v", seed, text, lesser, b)
			}
			out++
		}
	}
	if in < 10000 || out < 10000 {
		t.Errorf("%d were let in, %d were not: too few", in, out)
	}
}

// P11: texts that are made up: the least budget, the plain form and what is unfolded.
func TestMadeUpTogether(t *testing.T) {
	names, told, read := 0, 0, 0
	for s := range madeUp(t) {
		needsItsMeasure(t, s.text)
		if plainSaysTheSame(t, s.doc) && strings.Contains(s.doc.Plain(), "&n1 ") {
			names++
		}
		line, asText := unfoldedWeighsTheSame(t, s.doc)
		if line {
			told++
		}
		if asText {
			read++
		}
	}
	if names < 2000 || told < read+1000 || read < 3000 {
		t.Errorf("%d texts with two names, %d unfolded, %d of these read: too few", names, told, read)
	}
}
