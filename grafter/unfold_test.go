package grafter_test

import (
	"fmt"
	"math"
	"runtime"
	"strings"
	"testing"

	"grafter/api"
	"grafter/grafter"
)

// unfoldIs asks for one answer of Unfold.
func unfoldIs(t *testing.T, d *grafter.Doc, most int, want string, errno api.Errno) {
	t.Helper()
	if got, e := d.Unfold(most); got != want || e != errno {
		t.Errorf("Unfold(%d): %d bytes %.70q, %d, want %d bytes %.70q, %d", most, len(got), got, e, len(want), want, errno)
	}
}

// unfold asks what a text is unfolded to, at every bound that may make a difference.
func unfold(t *testing.T, text, want string) {
	t.Helper()
	d := accept(t, text, wide)
	size := len(want)
	for _, most := range []int{size, size + 1, api.MaxOut, api.MaxOut + 1, math.MaxInt32, math.MaxInt} {
		unfoldIs(t, d, most, want, api.OK)
	}
	for _, most := range []int{size - 1, size / 2, 1 - size%2, 0, -1, -size, math.MinInt32, math.MinInt + 1, math.MinInt} {
		if most < size {
			unfoldIs(t, d, most, "", api.ErrHeavy)
		}
	}
	unfoldIs(t, d, size, want, api.OK) // and nothing is left of what was refused
}

// tooMuch asks that a text is unfolded under no bound, and that no more is
// made of it than could be told.
func tooMuch(t *testing.T, text string) {
	t.Helper()
	d := accept(t, text, wide)
	for _, most := range []int{math.MaxInt, math.MaxInt - 1, api.MaxWeight, 1 << 32, api.MaxOut + 1, api.MaxOut, api.MaxOut - 1, 1000, 1, 0, -1, math.MinInt} {
		var before, after runtime.MemStats
		runtime.ReadMemStats(&before)
		unfoldIs(t, d, most, "", api.ErrHeavy)
		runtime.ReadMemStats(&after)
		if made := after.TotalAlloc - before.TotalAlloc; made > 1<<20 {
			t.Errorf("Unfold(%d) of %.70q took %d bytes", most, text, made)
		}
	}
}

// P10: what the document shows.
func TestUnfoldExamples(t *testing.T) {
	const text, want = "- &p [1, 2]\n- *p\n- {k: *p}", "[[1, 2], [1, 2], {k: [1, 2]}]"
	unfoldIs(t, accept(t, text, wide), 99, want, api.OK)
	unfold(t, text, want)
	unfold(t, "a: 1\nb: [x, \"y z\"]", "{a: 1, b: [x, \"y z\"]}")
	unfold(t, "a:\n  - 1\n  -\n    b: 2", "{a: [1, {b: 2}]}")
}

// P10: a text without names is unfolded to its plain form.
func TestUnfoldWithoutNames(t *testing.T) {
	for _, c := range [][2]string{
		{"a", "a"}, {"\"a\"", "a"}, {"abcdefghijkl", "abcdefghijkl"}, {"\"abcdefghijklm\"", "\"abcdefghijklm\""}, {"\"\"", "\"\""}, {"\"a b\"", "\"a b\""}, {"\"*a\"", "\"*a\""}, {"\"&a x\"", "\"&a x\""}, {"\"\xff\x00\"", "\"\xff\x00\""}, {"\"日本\"", "\"日本\""},
		{"[]", "[]"}, {"[ ]", "[]"}, {"{}", "{}"}, {"{ }", "{}"}, {"[[],{}]", "[[], {}]"}, {"[[[]]]", "[[[]]]"}, {"{a:{},b:[]}", "{a: {}, b: []}"},
		{"[x,x,[x],[x]]", "[x, x, [x], [x]]"}, {"{\"a b\":1,\"c\":2,\"\":3}", "{\"a b\": 1, c: 2, \"\": 3}"}, {"{z: 1, a: 2, 10: 3, 9: 4}", "{z: 1, a: 2, 10: 3, 9: 4}"},
		{"\n-a\n\n-\n  - b\n", "[a, [b]]"}, {"\"a\": 1\n\"b c\":\n  d :2", "{a: 1, \"b c\": {d: 2}}"},
		{"&p x", "x"}, {"&p []", "[]"}, {"[&a x, y, &b z]", "[x, y, z]"}, {"a: &p\n  - 1", "{a: [1]}"}, // names that nobody uses
		{strings.Repeat("[", 20) + strings.Repeat("]", 20), strings.Repeat("[", 20) + strings.Repeat("]", 20)},
		{"[" + strings.Repeat("a,", 498) + "a]", "[" + strings.Repeat("a, ", 498) + "a]"},
	} {
		unfold(t, c[0], c[1])
		if got := accept(t, c[0], wide).Plain(); got != c[1] {
			t.Errorf("Plain of %q: %q", c[0], got)
		}
	}
}

// P10: a node that stands in several places is told at each of them, and has no name.
func TestUnfoldNames(t *testing.T) {
	for _, c := range [][2]string{
		{"[&a x, *a]", "[x, x]"}, {"[&a x, *a, *a, *a]", "[x, x, x, x]"}, {"[&a \"\", *a]", "[\"\", \"\"]"}, {"[&a \"b c\", *a]", "[\"b c\", \"b c\"]"}, {"[&a \"b\", *a]", "[b, b]"}, {"[&a [], *a]", "[[], []]"}, {"[&a {}, *a]", "[{}, {}]"}, {"[&a [[]], *a]", "[[[]], [[]]]"},
		{"{a: &a x, b: *a}", "{a: x, b: x}"}, {"{\"a b\": &a {c: \"d e\"}, f: *a}", "{\"a b\": {c: \"d e\"}, f: {c: \"d e\"}}"}, {"{a: &a a, \"b \": *a, c: [*a]}", "{a: a, \"b \": a, c: [a]}"},
		{"[y, &a x, *a]", "[y, x, x]"}, {"[[y], [[&a x], *a], *a]", "[[y], [[x], x], x]"}, // not what leads to its first place
		{"{a: [1, &a {b: c}], d: {e: *a, f: [*a, *a]}}", "{a: [1, {b: c}], d: {e: {b: c}, f: [{b: c}, {b: c}]}}"},
		{"a: &p\n  x: 1\nb: *p\nc:\n  - *p", "{a: {x: 1}, b: {x: 1}, c: [{x: 1}]}"},
		{"- &a\n  -\n    - x\n- *a", "[[[x]], [[x]]]"},
		{"[&a x, &a y, *a]", "[x, y, y]"}, {"[&a x, *a, &a y, *a]", "[x, x, y, y]"}, {"[&a x, &a [*a], *a]", "[x, [x], [x]]"}, {"[&a [&a x, *a], *a]", "[[x, x], [x, x]]"}, // names that are taken over
	} {
		unfold(t, c[0], c[1])
	}
}

// P10: nodes that stand in several places, one in the other.
func TestUnfoldNamesInEachOther(t *testing.T) {
	for _, c := range [][2]string{
		{"[&a x, &b [*a, *a], *b, *a]", "[x, [x, x], [x, x], x]"},
		{"[&a [&b x], *b, *a]", "[[x], x, [x]]"},
		{"[&a [&b [&c x, *c], *b, *c], *c, *b, *a]", "[[[x, x], [x, x], x], x, [x, x], [[x, x], [x, x], x]]"},
		{"- &a\n  - &b x\n  - *b\n- *a\n- *b", "[[x, x], [x, x], x]"},
		{"k:\n  l: &z {m: &y \"1 2\", n: *y}\n  o: *y\np: *z\nq: [*z, *y]", "{k: {l: {m: \"1 2\", n: \"1 2\"}, o: \"1 2\"}, p: {m: \"1 2\", n: \"1 2\"}, q: [{m: \"1 2\", n: \"1 2\"}, \"1 2\"]}"},
	} {
		unfold(t, c[0], c[1])
	}
	text, last, want := "[&a x", "x", "[x"
	for range 9 {
		last = "[" + last + ", " + last + "]"
		text += ",&a [*a,*a]"
		want += ", " + last
	}
	unfold(t, text+"]", want+"]")
}

// hundreds gives the beginning of a list of so many lists of a hundred words,
// one of which is told and the others named, and what it is unfolded to.
func hundreds(lists int) (text, told string) {
	list := "[" + strings.Repeat("x, ", 99) + "x]"
	text = "[&p " + strings.ReplaceAll(list, " ", "") + strings.Repeat(",*p", lists-1)
	told = "[" + strings.Repeat(list+", ", lists-1) + list
	return text, told
}

// ofLength gives a text that is unfolded to just so many bytes, and that line:
// it ends with a name, or with a word.
func ofLength(bytes int, name bool) (text, told string) {
	last, lastTold := "", "]"
	if name {
		last, lastTold = ",*p", ", ["+strings.Repeat("x, ", 99)+"x]]"
	}
	text, told = hundreds((bytes - len(lastTold) - 20) / 302)
	for left := bytes - len(told) - len(lastTold); left > 0; {
		size := min(left, 14)
		if left > 14 && left < 18 {
			size = 9
		}
		word := strings.Repeat("w", size-2)
		text += "," + word
		told += ", " + word
		left -= size
	}
	return text + last + "]", told + lastTold
}

// P10: just MaxOut bytes are told, one more is not, whatever the bound.
func TestUnfoldAboutMaxOut(t *testing.T) {
	for _, name := range []bool{false, true} {
		for bytes := api.MaxOut - 20; bytes <= api.MaxOut+20; bytes++ {
			text, told := ofLength(bytes, name)
			if len(told) != bytes {
				t.Fatalf("%d bytes, want %d", len(told), bytes)
			}
			if bytes > api.MaxOut {
				tooMuch(t, text)
			} else {
				unfold(t, text, told)
			}
		}
	}
}

// P10: a line that a key, a text, a bracket or what is told again brings up to MaxOut bytes, or beyond.
func TestUnfoldGoesBeyond(t *testing.T) {
	text, told := hundreds(65)
	text, told = text+strings.Repeat(",abcdefghijkl", 25), told+strings.Repeat(", abcdefghijkl", 25)
	for _, form := range [][2]string{
		{"{%s: z}", "{%s: z}"}, {"{%s: [[[[]]]]}", "{%s: [[[[]]]]}"}, {"[[[[[[[[%s]]]]]]]]", "[[[[[[[[%s]]]]]]]]"}, {"{a: {b: {c: %s}}}", "{a: {b: {c: %s}}}"},
		{"[a, &q %s, *q]", "[a, %[1]s, %[1]s]"}, {"[&q [%s], {k: *q}]", "[[%[1]s], {k: [%[1]s]}]"}, {"[&q [], {%s: *q}]", "[[], {%s: []}]"},
	} {
		inside := 0
		for size := range api.MaxString + 1 {
			word := `"` + strings.Repeat("+", size) + `"`
			whole := text + "," + fmt.Sprintf(form[0], word) + "]"
			line := told + ", " + fmt.Sprintf(form[1], word) + "]"
			if len(line) > api.MaxOut {
				tooMuch(t, whole)
				continue
			}
			unfold(t, whole, line)
			inside++
		}
		if inside == 0 || inside == api.MaxString+1 {
			t.Errorf("%q: %d lines are short enough: this tests no bound", form, inside)
		}
	}
}

// bomb has lines each of which names the one above it so many times.
func bomb(lines, times int) string {
	text := "- &a x\n"
	for range lines {
		text += "- &a [" + strings.Repeat("*a,", times-1) + "*a]\n"
	}
	return text
}

// P1, P10: short texts that say more than can be told.
func TestUnfoldOfMuch(t *testing.T) {
	for _, text := range []string{
		bomb(12, 2), bomb(18, 2), bomb(18, 4), bomb(11, 10), bomb(5, 37), bomb(3, 99),
		exactly(api.MaxWeight), exactly(api.MaxWeight - 1),
		"{a: &a [" + strings.Repeat("x,", 199) + "x], b: &a [" + strings.Repeat("*a,", 99) + "*a], c: *a}",
	} {
		tooMuch(t, text)
	}
	unfold(t, bomb(0, 2), "[x]")
	unfold(t, bomb(2, 3), "[x, [x, x, x], [[x, x, x], [x, x, x], [x, x, x]]]")
}

// P1: Load gives nil beside an error, and that may be asked too.
func TestUnfoldOfNothing(t *testing.T) {
	d, _, _ := grafter.Load(";", wide)
	for _, d := range []*grafter.Doc{d, {}} {
		for _, most := range []int{math.MinInt, -1, 0, 1, api.MaxOut, math.MaxInt} {
			unfoldIs(t, d, most, "", api.ErrHeavy)
		}
	}
}

// P2: what is unfolded hangs on the text and the bound alone: not on the budget, and not on other calls.
func TestUnfoldStaysTheSame(t *testing.T) {
	const text, want, form = "[&a [&b x, *b], *b, {k: *a}]", "[[x, x], x, {k: [x, x]}]", "[&n0 [&n1 x, *n1], *n1, {k: *n0}]"
	first := accept(t, text, wide)
	second := accept(t, text, first.Measure())
	third := accept(t, "{b: &x 1, c: [*x, *x]}", wide)
	for range 3 {
		for _, d := range []*grafter.Doc{first, second} {
			unfoldIs(t, d, 99, want, api.OK)
			unfoldIs(t, d, 99, want, api.OK)
			unfoldIs(t, d, len(want)-1, "", api.ErrHeavy)
			if got := d.Plain(); got != form {
				t.Errorf("Plain: %q", got)
			}
			unfoldIs(t, d, math.MaxInt, want, api.OK)
			get(t, d, "[&n0 x, *n0]", api.OK, "2", "k")
			get(t, d, "", api.ErrPath, "3")
			unfoldIs(t, d, len(want), want, api.OK)
			if got := d.Measure(); got != budget(4, 4, 2, 9) {
				t.Errorf("Measure: %v", got)
			}
		}
		unfoldIs(t, third, 99, "{b: 1, c: [1, 1]}", api.OK)
		unfoldIs(t, third, 3, "", api.ErrHeavy)
		grafter.Load("[&b x, *b]", wide)
	}
}
