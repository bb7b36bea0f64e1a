package syntax

import "strings"

// kind tells what a piece of a text is.
type kind int

const (
	nothing  kind = iota // the text is at its end
	wrong                // a byte or a word that can stand nowhere
	name                 // may stand as a constant too
	number               // a constant that begins with a digit, so no name
	variable             // begins with a capital letter
	open                 // (
	shut                 // )
	comma                // ,
	stop                 // .
	not                  // !
	when                 // :-
)

// piece is one name, variable, constant or sign, and how many bytes stand ahead of it.
type piece struct {
	kind kind
	text string
	at   int
}

// pieceFrom gives the first piece of the text that stands at or behind the byte at.
func pieceFrom(text string, at int) piece {
	at += blanks(text[at:])
	if at == len(text) {
		return piece{kind: nothing, at: at}
	}
	k, size := measure(text[at:])
	return piece{kind: k, text: text[at : at+size], at: at}
}

// blanks counts the bytes of spaces, newlines and comments that the text begins with.
func blanks(text string) int {
	comment := false
	for i := range len(text) {
		switch {
		case text[i] == '\n':
			comment = false
		case text[i] == '%':
			comment = true
		case text[i] != ' ' && !comment:
			return i
		}
	}
	return len(text)
}

// measure tells the kind and the size of the piece that the text, which is not empty, begins with.
func measure(text string) (kind, int) {
	if size := wordSize(text); size > 0 {
		return wordKind(text[:size]), size
	}
	if strings.HasPrefix(text, ":-") {
		return when, 2
	}
	return signKind(text[0]), 1
}

func signKind(sign byte) kind {
	switch sign {
	case '(':
		return open
	case ')':
		return shut
	case ',':
		return comma
	case '.':
		return stop
	case '!':
		return not
	}
	return wrong
}

// wordSize counts the letters, digits and low lines that the text begins with.
func wordSize(text string) int {
	for i := range len(text) {
		if b := text[i]; !isSmall(b) && !isCapital(b) && !isDigit(b) && b != '_' {
			return i
		}
	}
	return len(text)
}

func wordKind(word string) kind {
	first := word[0]
	if isCapital(first) {
		if strings.Contains(word, "_") {
			return wrong
		}
		return variable
	}
	if first == '_' || hasCapital(word) {
		return wrong
	}
	if isDigit(first) {
		return number
	}
	return name
}

// IsConstant tells whether the text is a constant, of whatever length.
func IsConstant(text string) bool {
	if text == "" || wordSize(text) < len(text) {
		return false
	}
	k := wordKind(text)
	// What may be a name may be a constant too.
	return k == name || k == number
}

func hasCapital(word string) bool {
	for i := range len(word) {
		if isCapital(word[i]) {
			return true
		}
	}
	return false
}

func isSmall(b byte) bool { return 'a' <= b && b <= 'z' }

func isCapital(b byte) bool { return 'A' <= b && b <= 'Z' }

func isDigit(b byte) bool { return '0' <= b && b <= '9' }
