package grafter_test

import (
	"math"
	"math/big"
	"strings"
	"testing"

	"grafter/api"
	"grafter/grafter"
)

var wide = api.Budget{Depth: api.MaxDepth, Nodes: api.MaxNodes, Anchors: api.MaxAnchors, Weight: api.MaxWeight}

func budget(depth, nodes, anchors, weight int) api.Budget {
	return api.Budget{Depth: depth, Nodes: nodes, Anchors: anchors, Weight: weight}
}

func refuse(t *testing.T, text string, b api.Budget, want api.Errno, place int) {
	t.Helper()
	if d, errno, at := grafter.Load(text, b); d != nil || errno != want || at != place {
		t.Errorf("Load(%.70q, %v): %v, %d, %d, want %d, %d", text, b, d, errno, at, want, place)
	}
}

func accept(t *testing.T, text string, b api.Budget) *grafter.Doc {
	t.Helper()
	d, errno, at := grafter.Load(text, b)
	if d == nil || errno != api.OK || at != 0 {
		t.Fatalf("Load(%.70q, %v): %v, %d, %d", text, b, d, errno, at)
	}
	return d
}

// measure asks that a text is let in under just the budget that it needs, and
// that this is what Measure tells, whatever budget it was let in under.
func measure(t *testing.T, text string, want api.Budget) {
	t.Helper()
	for _, b := range []api.Budget{wide, want} {
		if got := accept(t, text, b).Measure(); got != want {
			t.Errorf("Measure of %.70q under %v: %v, want %v", text, b, got, want)
		}
	}
}

// P3: a budget is looked at first, and at each of its bounds.
func TestBudgetBounds(t *testing.T) {
	for _, b := range []api.Budget{
		wide, budget(1, 500, 100, api.MaxWeight), budget(20, 1, 100, api.MaxWeight), budget(20, 500, 0, api.MaxWeight), budget(20, 500, 100, 1), budget(1, 1, 0, 1),
	} {
		accept(t, "a", b)
	}
	for _, b := range []api.Budget{
		{}, budget(0, 1, 0, 1), budget(21, 1, 0, 1), budget(1, 0, 0, 1), budget(1, 501, 0, 1), budget(1, 1, -1, 1), budget(1, 1, 101, 1), budget(1, 1, 0, 0), budget(1, 1, 0, api.MaxWeight+1),
		budget(math.MinInt, 1, 0, 1), budget(math.MaxInt, 1, 0, 1), budget(1, math.MinInt, 0, 1), budget(1, math.MaxInt, 0, 1), budget(1, 1, math.MinInt, 1), budget(1, 1, math.MaxInt, 1), budget(1, 1, 0, math.MinInt), budget(1, 1, 0, math.MaxInt),
	} {
		for _, text := range []string{"a", "", ";", strings.Repeat("a", api.MaxText+1)} {
			refuse(t, text, b, api.ErrBudget, 0)
		}
	}
}

// P3: a text's length is looked at next, ahead of all that is in it.
func TestTextLength(t *testing.T) {
	accept(t, "a"+strings.Repeat(" ", api.MaxText-1), wide)
	accept(t, strings.Repeat("\n", api.MaxText-1)+"a", wide)
	refuse(t, strings.Repeat(" ", api.MaxText), wide, api.ErrText, api.MaxText)
	refuse(t, "a"+strings.Repeat(" ", api.MaxText), wide, api.ErrLong, 0)
	refuse(t, strings.Repeat(";", api.MaxText+1), wide, api.ErrLong, 0)
	refuse(t, strings.Repeat("[", 5000000), wide, api.ErrLong, 0)
}

// P3: ErrText at a byte with which no text goes on, or at the text's length.
func TestWrongTexts(t *testing.T) {
	for _, c := range []struct {
		text  string
		place int
	}{
		{"", 0}, {"\n", 1}, {"  \n ", 4},
		{";", 0}, {"\t", 0}, {"\r", 0}, {"\x00", 0}, {"\x80", 0}, {"\u00e4", 0}, {"a\t", 1}, {"a\r\n", 1}, {"/", 0}, {"@", 0}, {"^", 0}, {"`", 0}, {"|", 0},
		{":", 0}, {",", 0}, {"]", 0}, {"}", 0}, {": 1", 0}, {"a,", 1}, {"a]", 1}, {"a b", 2}, {"a b: 1", 2}, {"a *b", 2}, {"a [", 2}, {"\"a\"b", 3}, {"\"a\" : b c", 8},
		{"[a] b", 4}, {"[a]: 1", 3}, {"{} {}", 3}, {"&a b: 1", 4}, {"a\nb", 2}, {"a\n\n  b", 5}, {"[]\n- a", 3}, {"a\n: 1", 2},
		{"[", 1}, {"[ ", 2}, {"[\n", 1}, {"[a\n]", 2}, {"[,", 1}, {"[a,", 3}, {"[1,]", 3}, {"[a, ,", 4}, {"[a:", 2}, {"[a b", 3}, {"[a}", 2}, {"[-a]", 1}, {"[\"a\" b", 5}, {"[[]", 3}, {"[[][", 3},
		{"{", 1}, {"{a", 2}, {"{a}", 2}, {"{a,", 2}, {"{a:", 3}, {"{a:}", 3}, {"{a: ,", 4}, {"{a: 1", 5}, {"{a: 1]", 5}, {"{a: 1,}", 6}, {"{a: 1, }", 7}, {"{:", 1}, {"{,", 1}, {"{&", 1}, {"{*", 1}, {"{[", 1}, {"{-", 1}, {"{a\n", 2}, {"{a:\n", 3}, {"{a: 1 b", 6}, {"{a: b: c}", 5},
		{"-", 1}, {"- ", 2}, {"-\n", 2}, {"-\n  ", 4}, {"--", 1}, {"- - a", 2}, {"- a: 1", 3}, {"- a b", 4}, {"- :", 2}, {"- ]", 2}, {"- a\n-", 5}, {"-\n-", 2}, {"-\n- a", 2}, {"-\n  a", 5}, {"-\n  a\n", 5}, {"-\n  [a]", 4}, {"-\n  *a", 4}, {"-\n  &a", 4}, {"-\n  ;", 4}, {"-\n  : 1", 4},
		{"a:", 2}, {"a: ", 3}, {"a:\n\n", 4}, {"a::", 2}, {"a: b: c", 4}, {"a:\nb: 1", 3}, {"a:\n  b", 6}, {"a: 1\nb", 6}, {"a: 1\nb c", 7}, {"a: 1\n[", 5}, {"a: 1\n&a b: 1", 5}, {"a: -", 3}, {"a: - b", 3}, {"a: 1\n;", 5},
		{"a: 1\n- b", 5}, {"- a\nb: 1", 4}, {"- a\n\"b\": 1", 4}, {"-\n  - a\n  b: 1", 10}, {"-\n  a: 1\n  - b", 11}, {"-\n  a: 1\nb: 1", 9},
		{"&", 1}, {"& ", 2}, {"&\n", 1}, {"&\"a\" b", 1}, {"&[", 1}, {"&&", 1}, {"&*", 1}, {"&a", 2}, {"&a\n", 2}, {"&a\n  - b", 2}, {"&a *b", 3}, {"&a &b", 3}, {"&a -", 3}, {"&a ]", 3}, {"&a:", 2}, {"[&a]", 3}, {"[&a, b]", 3}, {"[&a", 3}, {"{&a b", 1}, {"{k: &a}", 6}, {"[&a\n", 3},
		{"- &a", 4}, {"- &a\n", 5}, {"- &a\n- b", 5}, {"- &a\n  b", 8}, {"- &a\n  [b]", 7}, {"- &a\n  &b c", 7}, {"- &a &b c", 5}, {"- &a *b", 5}, {"- &a b c", 7}, {"- &a - b", 5}, {"a: &p\nb: 1", 6},
		{"*", 1}, {"* ", 2}, {"*\n", 1}, {"*\"a\"", 1}, {"*[", 1}, {"**", 1}, {"*&a", 1}, {"[*]", 2}, {"[*,", 2}, {"- *", 3}, {"- *\n", 3}, {"- &a b\n- *a c", 12}, {"[&a b, *a c]", 10},
	} {
		refuse(t, c.text, wide, api.ErrText, c.place)
	}
}

// P4: a line that stands in otherwise than it may.
func TestLinesThatStandInWrongly(t *testing.T) {
	for _, c := range []struct {
		text  string
		place int
	}{
		{" a", 1}, {"  a", 2}, {" - a", 1}, {"  a: 1", 2}, {"\n\n  - a", 4}, {"   ;", 3},
		{"-\n x: 1", 3}, {"-\n   x: 1", 5}, {"-\n    x: 1", 6}, {"-\nx: 1", 2}, {"a:\n- b", 3}, {"a: &p\n   b: 1", 9}, {"a: &p\n    - b", 10}, {"a: &p\n - b", 7},
		{"- a\n - b", 5}, {"- a\n  - b", 6}, {"- a\n   - b", 7}, {"a: 1\n\n   b: 2", 9}, {"a: 1\n  \n  b: 2", 10},
		{"-\n  - a\n - b", 9}, {"-\n  - a\n   - b", 11}, {"-\n  - a\n    - b", 12}, {"-\n  -\n    - a\n   - b", 17}, {"-\n  -\n    - a\n - b", 15}, {"-\n  -\n    - a\n      - b", 20},
	} {
		refuse(t, c.text, wide, api.ErrText, c.place)
	}
	for _, text := range []string{"\n   \na", "- a\n   \n- b", "-\n \n  - a\n     \n- b\n   ", "a:\n  - b\n\n\n  - c\n"} {
		accept(t, text, wide)
	}
}

// P3: ErrDeep at the first byte of a node, and at `*`.
func TestDepth(t *testing.T) {
	accept(t, "[[a]]", budget(3, 9, 0, 9))
	refuse(t, "[[a]]", budget(2, 9, 0, 9), api.ErrDeep, 2)
	refuse(t, "[[a]]", budget(1, 9, 0, 9), api.ErrDeep, 1)
	refuse(t, "[{a: \"b\"}]", budget(2, 9, 0, 9), api.ErrDeep, 5)
	refuse(t, "[[ &p a]]", budget(2, 9, 9, 9), api.ErrDeep, 3)
	accept(t, "a:\n  - b", budget(3, 9, 0, 9))
	refuse(t, "a:\n  - b", budget(2, 9, 0, 9), api.ErrDeep, 7)
	refuse(t, "a:\n  - b", budget(1, 9, 0, 9), api.ErrDeep, 5)
	refuse(t, "a:\n\n  b: c", budget(1, 9, 0, 9), api.ErrDeep, 6)
	refuse(t, "a: &p\n  - b", budget(1, 9, 9, 9), api.ErrDeep, 3)
	accept(t, strings.Repeat("[", 20)+strings.Repeat("]", 20), wide)
	refuse(t, strings.Repeat("[", 21)+strings.Repeat("]", 21), wide, api.ErrDeep, 20)
	accept(t, strings.Repeat("[", 19)+"a"+strings.Repeat("]", 19), wide)
	accept(t, stairs(18)+"x: 1", wide)
	refuse(t, stairs(19)+"x: 1", wide, api.ErrDeep, len(stairs(19))+3)
	refuse(t, stairs(20)+"x: 1", wide, api.ErrDeep, len(stairs(20)))
	refuse(t, stairs(18)+"x: [[", wide, api.ErrDeep, len(stairs(18))+4)
}

// stairs has n lines, each of which stands in further than the one above it,
// and the blanks of the next one.
func stairs(n int) string {
	text := ""
	for depth := range n {
		text += strings.Repeat("  ", depth) + "-\n"
	}
	return text + strings.Repeat("  ", n)
}

func TestDepthByName(t *testing.T) {
	for _, c := range []struct {
		text  string
		depth int // the least one
		place int // of the `*` that goes deepest
	}{
		{"[&p a, [*p]]", 3, 8},
		{"[&p [a], *p, [ *p]]", 4, 15},
		{"- &p [a]\n- {k: *p}", 4, 15},
		{"- &p\n  - a\n-\n  k: *p", 4, 18},
		{"[&p a, &p [*p], [*p]]", 4, 17},
		{"[&p [a], &q [*p], [[*q]]]", 6, 20},
	} {
		accept(t, c.text, budget(c.depth, 99, 99, 99))
		refuse(t, c.text, budget(c.depth-1, 99, 99, 99), api.ErrDeep, c.place)
	}
	accept(t, "[&p [[a]], "+strings.Repeat("[", 16)+"*p"+strings.Repeat("]", 17), wide)
	refuse(t, "[&p [[a]], "+strings.Repeat("[", 17)+"*p", wide, api.ErrDeep, 28)
}

// P3: ErrNodes at the first node above Nodes; what stands by a name is no other node.
func TestNodes(t *testing.T) {
	for _, c := range []struct {
		text  string
		nodes int // of it all
		place int // of the last one that begins
	}{
		{"[a, b, c]", 4, 7}, {"[a, [], \"\"]", 4, 8}, {"{a: b, c: {}}", 3, 10}, {"[a, & p b, *p, *p]", 3, 4},
		{"- a\n-\n  - b", 4, 10}, {"a: 1\nb:\n  c: 1", 4, 13}, {"a:\n  - &p\n    b: []", 4, 17},
	} {
		accept(t, c.text, budget(9, c.nodes, 9, 99))
		refuse(t, c.text, budget(9, c.nodes-1, 9, 99), api.ErrNodes, c.place)
	}
	refuse(t, "a:\n  - &p\n    b: 1", budget(9, 2, 9, 99), api.ErrNodes, 7)
	refuse(t, "a:\n  - b", budget(9, 1, 9, 99), api.ErrNodes, 5)
	many := "[" + strings.Repeat("a,", 498)
	accept(t, many+"a]", wide)
	refuse(t, "["+strings.Repeat("a,", 499)+"a", wide, api.ErrNodes, 999)
}

// P3: ErrAnchors at the first `&` above Anchors, though it names no one anew.
func TestAnchors(t *testing.T) {
	accept(t, "&a x", budget(1, 1, 1, 1))
	refuse(t, "&a x", budget(1, 1, 0, 1), api.ErrAnchors, 0)
	accept(t, "[&a x, &a y]", budget(9, 9, 2, 9))
	refuse(t, "[&a x, &a y]", budget(9, 9, 1, 9), api.ErrAnchors, 7)
	refuse(t, "- &a\n  - & b c", budget(9, 9, 1, 9), api.ErrAnchors, 9)
	refuse(t, "- &a x\n- &b\n  - c", budget(9, 9, 1, 9), api.ErrAnchors, 9)
	accept(t, "[\"&a x\", \"&\"]", budget(9, 9, 0, 9))
	hundred := strings.Repeat("&a x,", 100)
	accept(t, "["+hundred+"x]", wide)
	refuse(t, "["+hundred+"&a x]", wide, api.ErrAnchors, 501)
}

// P3: ErrAlias at a `*` whose word no node has as its name by then.
func TestAlias(t *testing.T) {
	for _, c := range []struct {
		text  string
		place int
	}{
		{"*a", 0}, {"[*a, &a x]", 1}, {"[&a x, *b]", 7}, {"[&a x, * A]", 7}, {"[&ab x, *a]", 8}, {"[&a x, *ab]", 7}, {"[\"&a x\", *a]", 9}, {"a: *a", 3}, {"{a: 1, b: *a}", 10},
		{"&a [*a]", 4}, {"&a {k: *a}", 7}, {"[&a [x, *a]]", 8}, {"- &a\n  - *a", 9}, {"- &a\n  -\n    k: *a", 16}, {"- &a\n  k: &b\n    - *a", 19}, {"- &a\n  - &b\n    - *b", 18},
	} {
		refuse(t, c.text, wide, api.ErrAlias, c.place)
	}
	for _, text := range []string{
		"[&a x, *a, * a]", "[&a [], [[*a]]]", "{a: &a x, b: *a}", "- &a\n  - &b x\n  - *b\n- *a\n- *b", "a: &p\n  b: 1\nc: *p", "[&a.b_C1 x, *a.b_C1]", "- &a [&b x, *b]\n- [*a, *b]",
	} {
		accept(t, text, wide)
	}
}

// P3, P7: a name means the node that had it last, from that node's end on.
func TestNamesTakenOver(t *testing.T) {
	measure(t, "[&a x, *a, &a [y], *a]", budget(3, 4, 2, 7))
	measure(t, "[&a x, &a [*a, *a], *a]", budget(3, 3, 2, 8))     // inside, x has the name still
	measure(t, "[&a [&a x, *a, *a], *a]", budget(3, 3, 2, 9))     // the outer one ends last
	measure(t, "[&a [x, y], &a z, *a]", budget(3, 5, 2, 6))       // a lighter one takes over
	measure(t, "- &a\n  - &a\n    - x\n- *a", budget(4, 4, 2, 7)) // two blocks that end at one place
	measure(t, "- &a x\n- &a\n  - *a\n  - y\n- *a", budget(3, 4, 2, 8))
}

// P3: ErrTwice at the first byte of a key that the map has already.
func TestTwice(t *testing.T) {
	for _, c := range []struct {
		text  string
		place int
	}{
		{"{a: 1, a: 2}", 7}, {"{a: 1, \"a\": 2}", 7}, {"{\"a\": 1, a: 2}", 9}, {"{\"\": 1,\"\": 2}", 7}, {"{a: 1, b: 2, a", 13}, {"{a: {b: 1}, a", 12},
		{"a: 1\na: 2", 5}, {"a: 1\n\"a\" : 2", 5}, {"a: 1\nb:\n  c: 1\n  d: 1\n  c: 1", 24}, {"a:\n  b: 1\na: 2", 10}, {"a: 1\nb: 2\nb", 10}, {"-\n  a: 1\n  a:", 11},
	} {
		refuse(t, c.text, wide, api.ErrTwice, c.place)
	}
	for _, text := range []string{
		"{a: a, A: a}", "{a: {a: {a: a}}}", "[{a: 1}, {a: 1}]", "a:\n  a:\n    a: 1", "-\n  a: 1\n-\n  a: 1", "{a: 1, \"a \": 1, \" a\": 1, \"\": 1}", "{a: 1, b: a, c: a}",
	} {
		accept(t, text, wide)
	}
}

// P5: ErrHeavy only if nothing else is wrong, and only of the text's node.
func TestWeight(t *testing.T) {
	accept(t, "[a, b]", budget(9, 9, 9, 3))
	refuse(t, "[a, b]", budget(9, 9, 9, 2), api.ErrHeavy, 0)
	accept(t, "- &p [a, b]\n- *p", budget(9, 9, 9, 7))
	refuse(t, "- &p [a, b]\n- *p", budget(9, 9, 9, 6), api.ErrHeavy, 0)
	refuse(t, "\n[a]", budget(9, 9, 9, 1), api.ErrHeavy, 0)
	refuse(t, "[a, b;", budget(9, 9, 9, 1), api.ErrText, 5)
	refuse(t, "[a, b, *c]", budget(9, 9, 9, 1), api.ErrAlias, 7)
	refuse(t, "[a, b, c]", budget(9, 3, 9, 1), api.ErrNodes, 7)
}

// exactly gives a text whose node weighs just so much, from about 1e11 on.
func exactly(weight int) string {
	text, heavy, left := "[", 10, weight-1
	names := "abcdefghijk"
	weights := []int{}
	for i := range names {
		part := strings.Repeat("x,", 8) + "x"
		if i > 0 {
			last := "*" + names[i-1:i]
			part = strings.Repeat(last+",", 9) + last
			heavy = 1 + 10*heavy
		}
		text += "&" + names[i:i+1] + "[" + part + "],"
		weights = append(weights, heavy)
		left -= heavy
	}
	for i := len(names) - 1; i >= 0; i-- {
		for ; left > weights[i]; left -= weights[i] {
			text += "*" + names[i:i+1] + ","
		}
	}
	return text + strings.Repeat("x,", left-1) + "x]"
}

func TestGreatestWeight(t *testing.T) {
	for _, weight := range []int{api.MaxWeight - 1, api.MaxWeight} {
		if got := accept(t, exactly(weight), wide).Measure().Weight; got != weight {
			t.Errorf("Measure tells the weight %d, want %d", got, weight)
		}
	}
	accept(t, exactly(api.MaxWeight-1), budget(20, 500, 100, api.MaxWeight-1))
	refuse(t, exactly(api.MaxWeight), budget(20, 500, 100, api.MaxWeight-1), api.ErrHeavy, 0)
	refuse(t, exactly(api.MaxWeight+1), wide, api.ErrHeavy, 0)
}

// Each line of blown weighs some fifteen times as much as the one above it, so
// that 64 bits are too few; a count that wrapped round might look light.
func TestWeightAbove64Bits(t *testing.T) {
	for width := 2; width <= 14; width++ {
		blown := "- &a x\n"
		for range 17 {
			blown += "- &a [" + strings.Repeat("*a,", width) + "*a]\n"
		}
		weight := blownWeight(width+1, 17)
		if weight.IsInt64() && weight.Int64() <= api.MaxWeight {
			accept(t, blown, budget(20, 500, 100, int(weight.Int64())))
			refuse(t, blown, budget(20, 500, 100, int(weight.Int64()-1)), api.ErrHeavy, 0)
			continue
		}
		refuse(t, blown, wide, api.ErrHeavy, 0)
		refuse(t, blown, budget(20, 500, 100, 1), api.ErrHeavy, 0)
		refuse(t, blown+";", wide, api.ErrText, len(blown))
	}
	if blownWeight(15, 17).IsUint64() {
		t.Error("the heaviest of these texts is too light for this test")
	}
}

func blownWeight(times, lines int) *big.Int {
	one, total := big.NewInt(1), big.NewInt(2)
	last := big.NewInt(1)
	for range lines {
		last = new(big.Int).Add(one, new(big.Int).Mul(last, big.NewInt(int64(times))))
		total.Add(total, last)
	}
	return total
}

// P6: a word or string is looked at when all of it has been read.
func TestLongWordsAndStrings(t *testing.T) {
	word, str := "abcdefghijkl", "\"abcdefghijklmnopqrst\""
	for _, text := range []string{
		word, str, word + ": 1", str + ": 1", "&" + word + " x", "[" + word + "," + str + "]", "{" + word + ":1," + str + ":1}", "[&" + word + " x,*" + word + "]", "- " + str,
	} {
		accept(t, text, wide)
	}
	long, longString, open := word+"m", "\"abcdefghijklmnopqrstu\"", "\"ab"
	for _, ahead := range []string{"", "[", "[a, ", "{", "{a: ", "- ", "a: ", "a: 1\n", "-\n  ", "&", "[&", "- &", "*", "[*", "- *", "[& ", "[* "} {
		refuse(t, ahead+long, wide, api.ErrText, len(ahead)+12)
		refuse(t, ahead+long+": ", wide, api.ErrText, len(ahead)+12)
		if strings.ContainsAny(ahead, "&*") {
			continue
		}
		refuse(t, ahead+longString, wide, api.ErrText, len(ahead)+21)
		refuse(t, ahead+longString[:21]+"\n", wide, api.ErrText, len(ahead)+21)
		refuse(t, ahead+open, wide, api.ErrText, len(ahead)+3)
		refuse(t, ahead+open+"\n\"", wide, api.ErrText, len(ahead)+3)
	}
}

// P6: what is asked behind the word, and what is told by a place ahead of it.
func TestWordsAheadOfNamesAndKeys(t *testing.T) {
	refuse(t, "a: 1\n\"a", wide, api.ErrText, 7)
	refuse(t, "{a: 1, \"a\n\"", wide, api.ErrText, 9)
	refuse(t, "{a: 1, abcdefghijklm: 2}", wide, api.ErrText, 19)
	refuse(t, "[[*abcdefghijklm", budget(2, 9, 9, 9), api.ErrText, 15)
	refuse(t, "[&a [x], [*;", budget(3, 9, 9, 9), api.ErrText, 11)
	refuse(t, "[&a [x], [*a;", budget(3, 9, 9, 9), api.ErrDeep, 10)
	refuse(t, "[abcdefghijklm", budget(1, 9, 9, 9), api.ErrDeep, 1)
	refuse(t, "[\"a", budget(1, 9, 9, 9), api.ErrDeep, 1)
	refuse(t, "[abcdefghijklm", budget(9, 1, 9, 9), api.ErrNodes, 1)
	refuse(t, "[&abcdefghijklm", budget(9, 9, 0, 9), api.ErrAnchors, 1)
	refuse(t, "[&;", budget(9, 9, 0, 9), api.ErrAnchors, 1)
	refuse(t, "-\n  abcdefghijklm", budget(1, 9, 9, 9), api.ErrDeep, 4)
	refuse(t, "-\n  abcdefghijklm", budget(9, 1, 9, 9), api.ErrNodes, 4)
	refuse(t, "-\n  a;", budget(9, 1, 9, 9), api.ErrNodes, 4)
}

// P3: of two errors the first one by its place.
func TestTwoErrors(t *testing.T) {
	refuse(t, "[*a, ;", wide, api.ErrAlias, 1)
	refuse(t, "[;, *a", wide, api.ErrText, 1)
	refuse(t, "{a: *a, a: 1}", wide, api.ErrAlias, 4)
	refuse(t, "{a: 1, a: *a}", wide, api.ErrTwice, 7)
	refuse(t, "{a: 1, a;", wide, api.ErrTwice, 7)
	refuse(t, "a: 1\na", wide, api.ErrTwice, 5)
	refuse(t, "[a, [b], c]", budget(2, 3, 0, 9), api.ErrDeep, 5)
	refuse(t, "[a, b, c, [[d]]]", budget(2, 3, 0, 9), api.ErrNodes, 7)
	refuse(t, "[&a b, c, &a d]", budget(9, 2, 1, 9), api.ErrNodes, 7)
	refuse(t, "[&a b, &a c, d]", budget(9, 3, 1, 9), api.ErrAnchors, 7)
	refuse(t, "[&a b, &a c", budget(9, 9, 1, 9), api.ErrAnchors, 7)
	refuse(t, "*a: 1", wide, api.ErrAlias, 0)
	refuse(t, "- *a\n   - b", wide, api.ErrAlias, 2)
}

// P3: of two errors at one place the one that is named first.
func TestTwoErrorsAtOnePlace(t *testing.T) {
	refuse(t, "[;]", budget(1, 1, 0, 1), api.ErrText, 1)
	refuse(t, "-\n   - a", budget(1, 1, 0, 1), api.ErrText, 5)
	refuse(t, "-\n  [a]", budget(1, 1, 0, 1), api.ErrText, 4)
	refuse(t, "-\n- a", budget(1, 1, 0, 1), api.ErrText, 2)
	refuse(t, "[a]", budget(1, 1, 0, 1), api.ErrDeep, 1)
	refuse(t, "[&a b]", budget(1, 1, 0, 1), api.ErrDeep, 1)
	refuse(t, "[&a b]", budget(1, 9, 0, 1), api.ErrDeep, 1)
	refuse(t, "[&a b]", budget(2, 1, 0, 1), api.ErrNodes, 1)
	refuse(t, "- &a\n  - b", budget(1, 1, 0, 1), api.ErrDeep, 2)
	refuse(t, "- &a\n  - b", budget(2, 1, 0, 1), api.ErrNodes, 2)
	refuse(t, "- &a\n  - b", budget(2, 9, 0, 1), api.ErrAnchors, 2)
	refuse(t, "[*a]", budget(1, 1, 0, 1), api.ErrAlias, 1) // it means no node that could be too high
}
