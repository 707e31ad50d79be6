package grafter_test

import (
	"cmp"
	"fmt"
	"slices"
	"strings"
	"testing"

	"grafter/api"
	"grafter/grafter"
)

// plainOf writes a node that was made up as the document says, from the nodes
// that the writer meant.
func plainOf(top *made) string {
	places := map[*made]int{}
	var count func(m *made)
	count = func(m *made) {
		places[m]++
		if places[m] > 1 {
			return
		}
		for _, part := range m.parts {
			count(part)
		}
	}
	count(top)
	var named []*made
	for m, n := range places {
		if n > 1 {
			named = append(named, m)
		}
	}
	slices.SortFunc(named, func(a, b *made) int { return cmp.Compare(a.number, b.number) })
	told := map[*made]bool{}
	var tell func(m *made) string
	tell = func(m *made) string {
		name := ""
		if i := slices.Index(named, m); i >= 0 {
			name = fmt.Sprintf("&n%d ", i)
		}
		if told[m] {
			return "*" + strings.Trim(name, "& ")
		}
		told[m] = true
		if m.open == "" {
			return name + asText(m.text)
		}
		var parts []string
		for i, part := range m.parts {
			lead := ""
			if m.open == "{" {
				lead = asText(m.keys[i]) + ": "
			}
			parts = append(parts, lead+tell(part))
		}
		return name + m.open + strings.Join(parts, ", ") + closing(m)
	}
	return tell(top)
}

func asText(text string) string {
	const bytes = "abcdefghijklmnopqrstuvwxyzABCDEFGHIJKLMNOPQRSTUVWXYZ0123456789_."
	if text != "" && len(text) <= 12 && strings.Trim(text, bytes) == "" {
		return text
	}
	return `"` + text + `"`
}

// somePath goes some way down from a node, at random.
func (w *writer) somePath(top *made) ([]string, *made) {
	path := []string{}
	for len(top.parts) > 0 && w.Intn(5) != 0 {
		i := w.Intn(len(top.parts))
		word := fmt.Sprint(i)
		if top.open == "{" {
			word = top.keys[i]
		}
		path = append(path, word)
		top = top.parts[i]
	}
	return path, top
}

// noWords are words by which nothing stands in a node.
func noWords(m *made) []string {
	words := []string{"", "00", "-1", "+0", "x", fmt.Sprint(len(m.parts)), "18446744073709551616"}
	for i, key := range m.keys {
		words = append(words, key+" ", `"`+key+`"`, fmt.Sprint(i))
	}
	return words
}

// P8, P9, P11: texts that are made up: the plain form of it all, and at paths.
func TestMadeUpPlain(t *testing.T) {
	seen, names, deep := 0, 0, 0
	for seed := range int64(20000) {
		w, top := newWriter(seed)
		text := w.text.String()
		d, errno, _ := grafter.Load(text, wide)
		if errno != api.OK {
			continue
		}
		seen++
		want := plainOf(top)
		if got := d.Plain(); got != want {
			t.Fatalf("seed %d: Plain of %q: %q, want %q", seed, text, got, want)
		}
		names += strings.Count(want, "&n1 ")
		sayTheSame(t, d, want)
		for range 5 {
			path, m := w.somePath(top)
			get(t, d, plainOf(m), api.OK, path...)
			deep += len(path)
			for _, word := range noWords(m) {
				get(t, d, "", api.ErrPath, append(path, word)...)
			}
		}
		if t.Failed() {
			t.Fatalf("seed %d: %q", seed, text)
		}
	}
	if seen < 5000 || names < 500 || deep < 20000 {
		t.Errorf("%d texts, %d with two names, %d words of paths: too few", seen, names, deep)
	}
}

// sayTheSame reads a plain form and holds it against the Doc that told it.
func sayTheSame(t *testing.T, d *grafter.Doc, plain string) {
	t.Helper()
	if len(plain) > api.MaxText {
		return
	}
	again, errno, at := grafter.Load(plain, d.Measure())
	if errno != api.OK {
		t.Fatalf("Load(%q, %v): %d, %d", plain, d.Measure(), errno, at)
	}
	if got := again.Plain(); got != plain {
		t.Fatalf("Plain of %q: %q", plain, got)
	}
	before, after := d.Measure(), again.Measure()
	if before.Depth != after.Depth || before.Nodes != after.Nodes || before.Weight != after.Weight {
		t.Fatalf("Measure of the plain form %q: %v, want %v", plain, after, before)
	}
}
