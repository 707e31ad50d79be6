// Package scan cuts a text into lines and tokens, and knows their places.
package scan

import "grafter/api"

// Kind tells tokens apart; the byte that one begins with is enough for that.
type Kind int

const (
	End     Kind = iota // no byte is left
	NewLine             // the line is over, others may follow
	Word
	String
	Dash
	Colon
	Comma
	Star
	Ampersand
	OpenList
	CloseList
	OpenMap
	CloseMap
	Stray // a byte that begins no token
)

// Scanner stands at a place of a text. It is a value, so that a copy can look
// ahead while the first one stays where it is.
type Scanner struct {
	text  string
	place int
}

// New gives a scanner at a text's first byte.
func New(text string) Scanner {
	return Scanner{text: text}
}

// Place is the byte that the scanner stands at: the text's length at its end.
func (s *Scanner) Place() int {
	return s.place
}

// NextLine goes on to the first byte of the next line that says something, or
// to the text's end, and tells by how many blanks that line stands in. It is
// called at the text's beginning and at the end of a line.
func (s *Scanner) NextLine() int {
	start := s.place
	for s.place < len(s.text) {
		switch s.text[s.place] {
		case '\n':
			start = s.place + 1
		case ' ':
		default:
			return s.place - start
		}
		s.place++
	}
	return s.place - start
}

// Peek passes the blanks and tells what kind of token begins behind them. The
// token is left unread: what its beginning means for the budget is asked
// before what may be wrong further on in it.
func (s *Scanner) Peek() Kind {
	for s.place < len(s.text) && s.text[s.place] == ' ' {
		s.place++
	}
	if s.place == len(s.text) {
		return End
	}
	return kindOf(s.text[s.place])
}

// Skip passes the token of one byte that Peek told.
func (s *Scanner) Skip() {
	s.place = min(s.place+1, len(s.text))
}

// Read passes the word or string that Peek told and gives its text. If it is
// wrong, the scanner stands at the byte at which it is.
func (s *Scanner) Read() (string, bool) {
	if s.Peek() == String {
		return s.readString()
	}
	return s.readWord()
}

func (s *Scanner) readWord() (string, bool) {
	start := s.place
	for s.place < len(s.text) && isWordByte(s.text[s.place]) {
		if s.place-start == api.MaxWord {
			return "", false
		}
		s.place++
	}
	return s.text[start:s.place], s.place > start
}

func (s *Scanner) readString() (string, bool) {
	s.Skip()
	start := s.place
	for s.place < len(s.text) && s.text[s.place] != '\n' {
		if s.text[s.place] == '"' {
			text := s.text[start:s.place]
			s.Skip()
			return text, true
		}
		if s.place-start == api.MaxString {
			return "", false
		}
		s.place++
	}
	return "", false
}

func kindOf(b byte) Kind {
	switch b {
	case '\n':
		return NewLine
	case '"':
		return String
	case '-':
		return Dash
	case ':':
		return Colon
	case ',':
		return Comma
	case '*':
		return Star
	case '&':
		return Ampersand
	case '[':
		return OpenList
	case ']':
		return CloseList
	case '{':
		return OpenMap
	case '}':
		return CloseMap
	}
	if isWordByte(b) {
		return Word
	}
	return Stray
}

// IsWord tells whether a text is a word from its first byte to its last.
func IsWord(text string) bool {
	for i := range len(text) {
		if !isWordByte(text[i]) {
			return false
		}
	}
	return 0 < len(text) && len(text) <= api.MaxWord
}

func isWordByte(b byte) bool {
	switch {
	case 'a' <= b && b <= 'z', 'A' <= b && b <= 'Z', '0' <= b && b <= '9':
		return true
	}
	return b == '_' || b == '.'
}
