package grafter_test

import (
	"cmp"
	"fmt"
	"math"
	"math/big"
	"slices"
	"strings"
	"testing"

	"grafter/api"
)

// plainOf writes a node that was made up as the document says, from the nodes
// that the writer meant.
func plainOf(top *made) string {
	places := map[*made]int{}
	var count func(m *made)
	count = func(m *made) {
		places[m]++
		if places[m] > 1 {
			return
		}
		for _, part := range m.parts {
			count(part)
		}
	}
	count(top)
	var named []*made
	for m, n := range places {
		if n > 1 {
			named = append(named, m)
		}
	}
	slices.SortFunc(named, func(a, b *made) int { return cmp.Compare(a.number, b.number) })
	told := map[*made]bool{}
	var tell func(m *made) string
	tell = func(m *made) string {
		name := ""
		if i := slices.Index(named, m); i >= 0 {
			name = fmt.Sprintf("&n%d ", i)
		}
		if told[m] {
			return "*" + strings.Trim(name, "& ")
		}
		told[m] = true
		if m.open == "" {
			return name + asText(m.text)
		}
		var parts []string
		for i, part := range m.parts {
			lead := ""
			if m.open == "{" {
				lead = asText(m.keys[i]) + ": "
			}
			parts = append(parts, lead+tell(part))
		}
		return name + m.open + strings.Join(parts, ", ") + closing(m)
	}
	return tell(top)
}

func asText(text string) string {
	const bytes = "abcdefghijklmnopqrstuvwxyzABCDEFGHIJKLMNOPQRSTUVWXYZ0123456789_."
	if text != "" && len(text) <= 12 && strings.Trim(text, bytes) == "" {
		return text
	}
	return `"` + text + `"`
}

// somePath goes some way down from a node, at random.
func (w *writer) somePath(top *made) ([]string, *made) {
	path := []string{}
	for len(top.parts) > 0 && w.Intn(5) != 0 {
		i := w.Intn(len(top.parts))
		word := fmt.Sprint(i)
		if top.open == "{" {
			word = top.keys[i]
		}
		path = append(path, word)
		top = top.parts[i]
	}
	return path, top
}

// noWords are words by which nothing stands in a node.
func noWords(m *made) []string {
	words := []string{"", "00", "-1", "+0", "x", fmt.Sprint(len(m.parts)), "18446744073709551616"}
	for i, key := range m.keys {
		words = append(words, key+" ", `"`+key+`"`, fmt.Sprint(i))
	}
	return words
}

// P8, P9: texts that are made up: the plain form of it all, and at paths.
func TestMadeUpPlain(t *testing.T) {
	seen, names, deep := 0, 0, 0
	for s := range madeUp(t) {
		seen++
		want := plainOf(s.top)
		if got := s.doc.Plain(); got != want {
			t.Errorf("Plain: %q, want %q", got, want)
		}
		names += strings.Count(want, "&n1 ")
		for range 5 {
			path, m := s.somePath(s.top)
			get(t, s.doc, plainOf(m), api.OK, path...)
			deep += len(path)
			for _, word := range noWords(m) {
				get(t, s.doc, "", api.ErrPath, append(path, word)...)
			}
		}
	}
	if seen < 5000 || names < 2000 || deep < 20000 {
		t.Errorf("%d texts, %d with two names, %d words of paths: too few", seen, names, deep)
	}
}

// unfolded writes a node that was made up as if each place had a node of its
// own; what weighs more than MaxOut has more bytes than that.
func unfolded(m *made) (string, bool) {
	if m.heavy.Cmp(big.NewInt(api.MaxOut)) > 0 {
		return "", false
	}
	if m.open == "" {
		return asText(m.text), true
	}
	var parts []string
	for i, part := range m.parts {
		lead := ""
		if m.open == "{" {
			lead = asText(m.keys[i]) + ": "
		}
		told, _ := unfolded(part)
		parts = append(parts, lead+told)
	}
	line := m.open + strings.Join(parts, ", ") + closing(m)
	return line, len(line) <= api.MaxOut
}

// P10: texts that are made up, unfolded under bounds about their length.
func TestMadeUpUnfold(t *testing.T) {
	told, names, heavy := 0, 0, 0
	for s := range madeUp(t) {
		line, ok := unfolded(s.top)
		if !ok {
			heavy++
			for _, most := range []int{math.MaxInt, api.MaxOut, s.Intn(2 * api.MaxOut), 0} {
				unfoldIs(t, s.doc, most, "", api.ErrHeavy)
			}
			continue
		}
		told++
		names += strings.Count(s.doc.Plain(), "&n1 ")
		unfoldIs(t, s.doc, len(line), line, api.OK)
		unfoldIs(t, s.doc, len(line)+s.Intn(api.MaxOut), line, api.OK)
		unfoldIs(t, s.doc, len(line)-1, "", api.ErrHeavy)
		unfoldIs(t, s.doc, s.Intn(len(line)), "", api.ErrHeavy)
	}
	if told < 5000 || names < 2000 || heavy < 100 {
		t.Errorf("%d texts were told, %d with two names, %d were too heavy: too few", told, names, heavy)
	}
}
