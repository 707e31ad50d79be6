package grafter_test

import (
	"fmt"
	"strings"
	"testing"

	"grafter/api"
	"grafter/grafter"
)

// plain asks for the plain form of a text, and that it is a text that says the same.
func plain(t *testing.T, text, want string) {
	t.Helper()
	d := accept(t, text, wide)
	if got := d.Plain(); got != want {
		t.Errorf("Plain of %.70q: %q, want %q", text, got, want)
		return
	}
	if len(want) > api.MaxText {
		return
	}
	again := accept(t, want, wide)
	if got := again.Plain(); got != want {
		t.Errorf("Plain of the plain form %q: %q", want, got)
	}
	before, after := d.Measure(), again.Measure()
	before.Anchors, after.Anchors = 0, 0 // names that nobody uses are gone
	if before != after {
		t.Errorf("Measure of %.70q: %v, of its plain form: %v", text, before, after)
	}
}

// P8: what the document shows.
func TestPlainExamples(t *testing.T) {
	plain(t, "a: 1\nb: [x, \"y z\"]", "{a: 1, b: [x, \"y z\"]}")
	plain(t, "- &p [1, 2]\n- *p\n- {k: *p}", "[&n0 [1, 2], *n0, {k: *n0}]")
	plain(t, "a:\n  - 1\n  -\n    b: 2", "{a: [1, {b: 2}]}")
}

// P8: a text is told as a word, if it is one, however it was written; else as a string.
func TestPlainTexts(t *testing.T) {
	for _, word := range []string{"a", "Z", "0", "007", "_", ".", "..", "n0", "abcdefghijkl", "AZaz09_.", "123456789012"} {
		plain(t, word, word)
		plain(t, `"`+word+`"`, word)
		plain(t, `{"`+word+`": "`+word+`"}`, "{"+word+": "+word+"}")
		plain(t, word+" :"+word, "{"+word+": "+word+"}")
	}
	for _, text := range []string{
		"", " ", " a", "a ", "a b", "-", "a-b", "a:", "*a", "&a b", "[]", "{", ",", ";", "@", "`", "/", "'", "^", "\\", "\x00", "\t", "\r", "\x7f", "\x80", "\xff", "é", "日本", "abcdefghijklm", "1234567890123", "abcdefghijklmnopqrst", strings.Repeat(" ", 20),
	} {
		str := `"` + text + `"`
		plain(t, str, str)
		plain(t, "{"+str+":"+str+"}", "{"+str+": "+str+"}")
		plain(t, str+": ["+str+"]", "{"+str+": ["+str+"]}")
	}
}

// P8: every byte alone, as a text and as a key.
func TestPlainEveryByte(t *testing.T) {
	const words = "abcdefghijklmnopqrstuvwxyzABCDEFGHIJKLMNOPQRSTUVWXYZ0123456789_."
	for b := range 256 {
		text := string([]byte{byte(b)})
		if b == '"' || b == '\n' {
			continue
		}
		told := `"` + text + `"`
		if strings.Contains(words, text) {
			told = text
		}
		plain(t, `{"`+text+`": "`+text+`"}`, "{"+told+": "+told+"}")
		plain(t, `["a`+text+`"]`, "["+strings.Replace(told, text, "a"+text, 1)+"]")
	}
}

// P8: lists and maps, in brackets and in lines.
func TestPlainListsAndMaps(t *testing.T) {
	for _, c := range [][2]string{
		{"[ ]", "[]"}, {"{  }", "{}"}, {"[[],{}]", "[[], {}]"}, {"{a:[],b:{}}", "{a: [], b: {}}"}, {"[ a ,b,[ c ] ]", "[a, b, [c]]"},
		{"\n\n- a\n\n-\n\n  - b\n  -c\n- [d] \n", "[a, [b, c], [d]]"}, {"-\n  -\n    -\n      a: b", "[[[{a: b}]]]"}, {"a:\n  b:\n    c: d\ne: f", "{a: {b: {c: d}}, e: f}"},
		{"{z: 1, a: 2, m: 3, 10: 4, 9: 5}", "{z: 1, a: 2, m: 3, 10: 4, 9: 5}"}, // keys in the text's order
		{strings.Repeat("[", 20) + strings.Repeat("]", 20), strings.Repeat("[", 20) + strings.Repeat("]", 20)},
		{"[" + strings.Repeat("a,", 498) + "a]", "[" + strings.Repeat("a, ", 498) + "a]"},
	} {
		plain(t, c[0], c[1])
	}
}

// P8: a node that stands in several places has a name, others have none.
func TestPlainNames(t *testing.T) {
	for _, c := range [][2]string{
		{"&p [a]", "[a]"}, {"&p x", "x"}, {"[&a x, y, &b z]", "[x, y, z]"}, {"a: &p\n  - 1", "{a: [1]}"}, // names that nobody uses
		{"[x, x, [x], [x]]", "[x, x, [x], [x]]"}, // as much alike as may be, but no one node
		{"[&a x, *a]", "[&n0 x, *n0]"}, {"[&a \"\", {b: *a}]", "[&n0 \"\", {b: *n0}]"}, {"[&a {}, *a]", "[&n0 {}, *n0]"}, {"[&a [], *a, *a, *a]", "[&n0 [], *n0, *n0, *n0]"},
		{"{a: &a x, b: *a}", "{a: &n0 x, b: *n0}"}, {"a: &p\n  x: 1\nb: *p", "{a: &n0 {x: 1}, b: *n0}"},
		{"[&a x, &a y, *a]", "[x, &n0 y, *n0]"}, {"[&a x, *a, &a y, *a]", "[&n0 x, *n0, &n1 y, *n1]"}, // names that are taken over
		{"- &a x\n- &a [*a]\n- *a", "[&n0 x, &n1 [*n0], *n1]"},
		{"[&n1 x, *n1, &n0 y, *n0]", "[&n0 x, *n0, &n1 y, *n1]"}, // names that were others
		{"[&p [x], *p]", "[&n0 [x], *n0]"},                       // x stands in one place, of a node that stands in two
		{"[&a [&b x], *b]", "[[&n0 x], *n0]"},
		{"[&a x, &b [*a], &c [*b], *c]", "[&n0 x, &n1 [*n0], &n2 [*n1], *n2]"},
	} {
		plain(t, c[0], c[1])
	}
}

// P8: names are numbered as their nodes begin: an outer one ahead of those in it, though these end first.
func TestPlainNamesInTheirOrder(t *testing.T) {
	for _, c := range [][2]string{
		{"[&a [&b x], *b, *a]", "[&n0 [&n1 x], *n1, *n0]"},
		{"[&a [&b [&c x]], *c, *b, *a]", "[&n0 [&n1 [&n2 x]], *n2, *n1, *n0]"},
		{"- &a\n  - &b x\n  - *b\n- *a\n- *b", "[&n0 [&n1 x, *n1], *n0, *n1]"},
		{"- &a\n  - &b\n    - &c\n      - x\n- *c\n- *a\n- *b", "[&n0 [&n1 [&n2 [x]]], *n2, *n0, *n1]"},
		{"k:\n  l: &z {m: &y 1}\n  n: *y\no: *z", "{k: {l: &n0 {m: &n1 1}, n: *n1}, o: *n0}"},
	} {
		plain(t, c[0], c[1])
	}
	text, want := "[", "["
	for i := range api.MaxAnchors {
		text += "&a x,*a,"
		want += fmt.Sprintf("&n%d x, *n%d, ", i, i)
	}
	plain(t, text+"y]", want+"y]")
}

// P8: twelve nodes one in the other, each of which stands in two places.
func TestPlainManyNamesInEachOther(t *testing.T) {
	text, want, back, told := "[", "[", "", ""
	for i := range 12 {
		text += fmt.Sprintf("&a%d [", i)
		want += fmt.Sprintf("&n%d [", i)
		back = fmt.Sprintf(", *a%d", i) + back
		told = fmt.Sprintf(", *n%d", i) + told
	}
	shut := strings.Repeat("]", 12)
	plain(t, text+shut+back+"]", want+shut+told+"]")
}

// P8: short texts that unfold to very much are told in no more than they say.
func TestPlainOfMuch(t *testing.T) {
	text, want := "[&a0 x", "[&n0 x"
	for i := 1; i < 18; i++ {
		text += fmt.Sprintf(",&a%d [*a%d,*a%d,*a%d]", i, i-1, i-1, i-1)
		want += fmt.Sprintf(", &n%d [*n%d, *n%d, *n%d]", i, i-1, i-1, i-1)
	}
	want = strings.Replace(want, "&n17 ", "", 1)
	plain(t, text+"]", want+"]")
	if got := accept(t, text+"]", wide).Measure().Weight; got < 100000000 {
		t.Errorf("this text weighs %d: too light for this test", got)
	}
}

// P1: Load gives nil beside an error, and that may be asked too.
func TestPlainAndGetOfNothing(t *testing.T) {
	d, _, _ := grafter.Load(";", wide)
	for _, d := range []*grafter.Doc{d, {}} {
		if got := d.Plain(); got != "" {
			t.Errorf("Plain: %q", got)
		}
		for _, path := range [][]string{nil, {"0"}} {
			if got, errno := d.Get(path); got != "" || errno != api.ErrPath {
				t.Errorf("Get(%q): %q, %d", path, got, errno)
			}
		}
	}
}

// P2: what a Doc answers hangs on its text alone: not on the budget, and not on other calls.
func TestPlainStaysTheSame(t *testing.T) {
	const text, want = "[&a [&b x], *b, *a]", "[&n0 [&n1 x], *n1, *n0]"
	first := accept(t, text, wide)
	second := accept(t, text, first.Measure())
	third := accept(t, "{b: &x 1, c: [*x, *x]}", wide)
	for range 3 {
		for _, d := range []*grafter.Doc{first, second} {
			if got := d.Plain(); got != want {
				t.Errorf("Plain: %q", got)
			}
			get(t, d, "[x]", api.OK, "2")
			get(t, d, "", api.ErrPath, "3")
			get(t, d, want, api.OK)
		}
		third.Measure()
		third.Unfold(99)
		get(t, third, "[&n0 1, *n0]", api.OK, "c")
		if got := third.Plain(); got != "{b: &n0 1, c: [*n0, *n0]}" {
			t.Errorf("Plain: %q", got)
		}
		grafter.Load("[&b x, *b]", wide)
	}
}
