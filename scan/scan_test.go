package scan

import (
	"strings"
	"testing"
)

func TestKindOfEveryByte(t *testing.T) {
	single := map[byte]Kind{
		'\n': NewLine, '"': String, '-': Dash, ':': Colon, ',': Comma, '*': Star, '&': Ampersand,
		'[': OpenList, ']': CloseList, '{': OpenMap, '}': CloseMap, ' ': End,
	}
	const words = "abcdefghijklmnopqrstuvwxyzABCDEFGHIJKLMNOPQRSTUVWXYZ0123456789_."
	for b := range 256 {
		want, ok := single[byte(b)]
		if !ok && strings.IndexByte(words, byte(b)) >= 0 {
			want = Word
		} else if !ok {
			want = Stray
		}
		s := New(string([]byte{byte(b)}))
		if got := s.Peek(); got != want {
			t.Errorf("byte %d: kind %d, want %d", b, got, want)
		}
	}
}

func TestPeekPassesBlanksAlone(t *testing.T) {
	s := New("   a\t")
	if s.Peek() != Word || s.Place() != 3 {
		t.Fatalf("kind %d at %d", s.Peek(), s.Place())
	}
	s.Skip()
	if s.Peek() != Stray || s.Place() != 4 {
		t.Fatalf("kind %d at %d", s.Peek(), s.Place())
	}
	s.Skip()
	s.Skip()
	if s.Peek() != End || s.Place() != 5 {
		t.Fatalf("kind %d at %d", s.Peek(), s.Place())
	}
}

func TestRead(t *testing.T) {
	for _, c := range []struct {
		text, want string
		ok         bool
		place      int
	}{
		{"a", "a", true, 1},
		{"  aZ09_.-", "aZ09_.", true, 8},
		{"abcdefghijkl", "abcdefghijkl", true, 12},
		{"abcdefghijkl m", "abcdefghijkl", true, 12},
		{"abcdefghijklm", "", false, 12},
		{`""`, "", true, 2},
		{`"a b"c`, "a b", true, 5},
		{`"[&*]{}:,-"`, "[&*]{}:,-", true, 11},
		{"\"\x00\xff\t\"", "\x00\xff\t", true, 5},
		{`"abcdefghijklmnopqrst"`, "abcdefghijklmnopqrst", true, 22},
		{`"abcdefghijklmnopqrstu"`, "", false, 21},
		{`"abcdefghijklmnopqrst`, "", false, 21},
		{"\"abcdefghijklmnopqrst\n", "", false, 21},
		{`"`, "", false, 1},
		{"\"a\n\"", "", false, 2},
		{"-", "", false, 0},
		{"", "", false, 0},
	} {
		s := New(c.text)
		if got, ok := s.Read(); got != c.want || ok != c.ok || s.Place() != c.place {
			t.Errorf("%q: %q, %v at %d, want %q, %v at %d", c.text, got, ok, s.Place(), c.want, c.ok, c.place)
		}
	}
}

func TestNextLine(t *testing.T) {
	for _, c := range []struct {
		text          string
		indent, place int
	}{
		{"", 0, 0}, {"a", 0, 0}, {"  a", 2, 2}, {"\n\na", 0, 2}, {"   \n a", 1, 5}, {"\n  ", 2, 3}, {"\t", 0, 0}, {" \t", 1, 1},
	} {
		s := New(c.text)
		if indent := s.NextLine(); indent != c.indent || s.Place() != c.place {
			t.Errorf("%q: %d at %d, want %d at %d", c.text, indent, s.Place(), c.indent, c.place)
		}
	}
}

func TestCopyLooksAhead(t *testing.T) {
	s := New("ab: c")
	ahead := s
	ahead.Read()
	if ahead.Peek() != Colon || s.Place() != 0 {
		t.Errorf("ahead at %d, the first one at %d", ahead.Place(), s.Place())
	}
}

func TestIsWord(t *testing.T) {
	for _, text := range []string{"a", "Z", "0", "_", ".", "a.b_C9", "abcdefghijkl"} {
		if !IsWord(text) {
			t.Errorf("%q is a word", text)
		}
	}
	for _, text := range []string{"", " ", "a ", " a", "a b", "-", "a-", "\"a\"", "é", "\xff", "a\n", "abcdefghijklm", strings.Repeat("a", 1000)} {
		if IsWord(text) {
			t.Errorf("%q is no word", text)
		}
	}
}
