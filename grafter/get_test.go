package grafter_test

import (
	"fmt"
	"slices"
	"strings"
	"testing"

	"grafter/api"
	"grafter/grafter"
)

func get(t *testing.T, d *grafter.Doc, want string, fault api.Errno, path ...string) {
	t.Helper()
	if got, errno := d.Get(path); got != want || errno != fault {
		t.Errorf("Get(%.70q): %q, %d, want %q, %d", path, got, errno, want, fault)
	}
}

// P9: what the document shows.
func TestGetExamples(t *testing.T) {
	d := accept(t, "a: 1\nb: [x, \"y z\"]", wide)
	get(t, d, "\"y z\"", api.OK, "b", "1")
	get(t, d, "", api.ErrPath, "b", "2")
	get(t, d, "{a: 1, b: [x, \"y z\"]}", api.OK)
}

// P9: a path of no words is the text's node, whatever it is.
func TestGetOfNoPath(t *testing.T) {
	for _, text := range []string{"a", "\"\"", "[]", "{}", "[&n0 a, *n0]", "{a: [b]}"} {
		d := accept(t, text, wide)
		get(t, d, text, api.OK)
		get(t, d, text, api.OK, []string{}...)
	}
}

// P9: a list's numbers, in digits without noughts ahead.
func TestGetNumbers(t *testing.T) {
	d := accept(t, "[a,b,c,d,e,f,g,h,i,j,k,[l]]", wide)
	for i, want := range strings.Split("a,b,c,d,e,f,g,h,i,j,k,[l]", ",") {
		get(t, d, want, api.OK, fmt.Sprint(i))
	}
	get(t, d, "l", api.OK, "11", "0")
	for _, word := range []string{
		"12", "99", "-1", "-0", "+0", "+1", "00", "01", "001", "011", "", " ", " 1", "1 ", "1.0", "1.", "0x1", "1e0", "1_0", "0b1", "0o1", "a", "\"1\"", "1\n", "1\x00", "١", "１", "n0",
		"2147483648", "4294967296", "4294967297", "9223372036854775807", "9223372036854775808", "18446744073709551615", "18446744073709551616", "18446744073709551617", "-9223372036854775808", "-18446744073709551615", "99999999999999999999", "340282366920938463463374607431768211456",
		strings.Repeat("0", 100000), strings.Repeat("9", 100000), strings.Repeat("0", 100000) + "1",
	} {
		get(t, d, "", api.ErrPath, word)
		get(t, d, "", api.ErrPath, "11", word, "0")
	}
	get(t, d, "", api.ErrPath, "11", "1")
	get(t, accept(t, "[]", wide), "", api.ErrPath, "0")
	get(t, accept(t, "- a\n-\n  - b\n  - c", wide), "c", api.OK, "1", "1")
	get(t, accept(t, "["+strings.Repeat("a,", 498)+"b]", wide), "b", api.OK, "498")
	get(t, accept(t, "["+strings.Repeat("a,", 498)+"b]", wide), "", api.ErrPath, "499")
}

// P9: a map's keys, which are texts, however they were written, and not numbers.
func TestGetKeys(t *testing.T) {
	d := accept(t, "a: 1\n\"b\": 2\n\"c d\":\n  00: u\n  \"\": {e: [v]}\n  5: w", wide)
	get(t, d, "1", api.OK, "a")
	get(t, d, "2", api.OK, "b")
	get(t, d, "{00: u, \"\": {e: [v]}, 5: w}", api.OK, "c d")
	get(t, d, "u", api.OK, "c d", "00")
	get(t, d, "w", api.OK, "c d", "5")
	get(t, d, "{e: [v]}", api.OK, "c d", "")
	get(t, d, "v", api.OK, "c d", "", "e", "0")
	for _, path := range [][]string{
		{"c"}, {"A"}, {""}, {"\"b\""}, {"a "}, {" a"}, {"ab"}, {"0"}, {"1"}, {"c d "}, {"cd"}, {"\"c d\""}, {"c d", "0"}, {"c d", "1"}, {"c d", "05"}, {"c d", "u"}, {"c d", "", ""}, {"c d", "", "e", "1"}, {"a\x00"}, {strings.Repeat("a", 100000)},
	} {
		get(t, d, "", api.ErrPath, path...)
	}
	get(t, accept(t, "{}", wide), "", api.ErrPath, "")
	get(t, accept(t, "{}", wide), "", api.ErrPath, "0")
}

// P9: nothing stands in a text.
func TestGetIntoTexts(t *testing.T) {
	for _, text := range []string{"a", "\"\"", "0"} {
		for _, word := range []string{"", "0", "a", "1"} {
			get(t, accept(t, text, wide), "", api.ErrPath, word)
			get(t, accept(t, "["+text+"]", wide), "", api.ErrPath, "0", word)
			get(t, accept(t, "k: "+text, wide), "", api.ErrPath, "k", word)
		}
	}
}

// P1, P9: paths as long as may be, and longer.
func TestGetDeep(t *testing.T) {
	d := accept(t, strings.Repeat("[", 19)+"a"+strings.Repeat("]", 19), wide)
	noughts := slices.Repeat([]string{"0"}, 1000000)
	for size := range 19 {
		get(t, d, strings.Repeat("[", 19-size)+"a"+strings.Repeat("]", 19-size), api.OK, noughts[:size]...)
	}
	get(t, d, "a", api.OK, noughts[:19]...)
	get(t, d, "", api.ErrPath, noughts[:20]...)
	get(t, d, "", api.ErrPath, noughts...)
	get(t, d, "", api.ErrPath, make([]string, 1000000)...)
}

// P9: what stands there by a name is there as well.
func TestGetThroughNames(t *testing.T) {
	d := accept(t, "a: &p\n  - &q {k: 1}\n  - *q\nb: [*p, *q]\nc: *p", wide)
	for _, path := range []string{"a", "b 0", "c"} {
		words := strings.Fields(path)
		get(t, d, "[&n0 {k: 1}, *n0]", api.OK, words...)
		get(t, d, "{k: 1}", api.OK, append(words, "0")...)
		get(t, d, "1", api.OK, append(words, "1", "k")...)
		get(t, d, "", api.ErrPath, append(words, "2")...)
	}
	get(t, accept(t, "[&a x, &a [y], *a]", wide), "y", api.OK, "2", "0")
	get(t, accept(t, "[&a x, *a, &a [y]]", wide), "x", api.OK, "1")
	get(t, d, "[[&n0 {k: 1}, *n0], *n0]", api.OK, "b") // p stands in one place of it
}

// P9: names are those of what is told alone, in the order in which these nodes begin, and not in that in which they are told.
func TestGetNames(t *testing.T) {
	d := accept(t, "- &x [1]\n- &y [2]\n- [*y, *x, *x, *y]\n- *x\n- [*y, *y, [*x]]\n- [*x]", wide)
	get(t, d, "[1]", api.OK, "0")
	get(t, d, "[1]", api.OK, "3")
	get(t, d, "[&n1 [2], &n0 [1], *n0, *n1]", api.OK, "2")
	get(t, d, "2", api.OK, "2", "3", "0")
	get(t, d, "[&n0 [2], *n0, [[1]]]", api.OK, "4")
	get(t, d, "[[1]]", api.OK, "5")
	d = accept(t, "- &a [&b x]\n- [*b, *a, *a]\n- {k: [*b], l: *a}", wide) // a begins first and ends last
	get(t, d, "[&n1 x, &n0 [*n1], *n0]", api.OK, "1")
	get(t, d, "{k: [&n0 x], l: [*n0]}", api.OK, "2")
	d = accept(t, "- &p [x]\n- [*p, *p, &q y, *q]\n- [&q z, *q, *p, *p]", wide)
	get(t, d, "[&n0 [x], *n0, &n1 y, *n1]", api.OK, "1")
	get(t, d, "[&n1 z, *n1, &n0 [x], *n0]", api.OK, "2")
}

// P9: more than ten names, told from the last to the first: n10 is behind n9.
func TestGetManyNames(t *testing.T) {
	text, stars, first, again := "[", "", "", ""
	for i := range 25 {
		text += fmt.Sprintf("&a%d x%d,", i, i)
		stars = fmt.Sprintf(",*a%d", i) + stars
		first = fmt.Sprintf(", &n%d x%d", i, i) + first
		again = fmt.Sprintf(", *n%d", i) + again
	}
	d := accept(t, text+"["+stars[1:]+stars+"]]", wide)
	get(t, d, "["+first[2:]+again+"]", api.OK, "25")
	get(t, d, "x24", api.OK, "25", "0")
}

// P2: neither the path nor what stands behind it is written into.
func TestGetLeavesThePath(t *testing.T) {
	d := accept(t, "[a, {k: [b, c]}]", wide)
	all := []string{"1", "k", "0", "77", "78", "79"}
	before := slices.Clone(all)
	for size := range all {
		d.Get(all[:size])
		d.Get(all[:size:size])
		if !slices.Equal(all, before) {
			t.Fatalf("after Get of %d words: %q", size, all)
		}
	}
	path := all[:2]
	get(t, d, "[b, c]", api.OK, path...)
	path[1] = "z" // the caller may change it
	get(t, d, "", api.ErrPath, path...)
	get(t, d, "[b, c]", api.OK, "1", "k")
}
