// Package scan cuts a text into the tokens of a pattern, and joins tokens to a text.
package scan

import (
	"strings"

	"herald/api"
)

// Kind tells what a token is.
type Kind int

const (
	Wrong Kind = iota // can stand nowhere
	End               // the text's end
	Number
	Name
	Reserved
	Sign
)

// maxDigits is how many digits MaxNumber has.
const maxDigits = 9

// Token is a piece of a text. Which reserved word or sign it is, its own text tells.
type Token struct {
	Kind  Kind
	Place int
	Text  string
}

// Tokens cuts text up. The last token is the end, or the first one that is wrong:
// nothing behind that can matter any more.
func Tokens(text string) []Token {
	var all []Token
	for at := 0; ; {
		at += span(text[at:], isBlank)
		kind, length := first(text[at:])
		all = append(all, Token{kind, at, text[at : at+length]})
		if kind == Wrong || kind == End {
			return all
		}
		at += length
	}
}

// first tells of the token at the head of rest its kind and its length.
func first(rest string) (Kind, int) {
	if rest == "" {
		return End, 0
	}
	longer := strings.HasPrefix(rest[1:], "=")
	switch b := rest[0]; {
	case isLetter(b):
		return word(rest)
	case isDigit(b):
		return number(rest)
	case b == '!':
		if !longer {
			return Wrong, 1
		}
		fallthrough // from here on it is as the others that may have a `=`
	case b == '<', b == '>':
		if longer {
			return Sign, 2
		}
		fallthrough // alone it is as the signs of one byte
	case strings.IndexByte("()|:.+-*/=", b) >= 0:
		return Sign, 1
	}
	return Wrong, 1
}

func word(rest string) (Kind, int) {
	length := span(rest, isLetter)
	switch rest[:length] {
	case "within", "rate", "then", "not", "if", "times", "and", "or", "it":
		return Reserved, length
	}
	// The grammar has no place for a word that is too long to be a name.
	if length > api.MaxName {
		return Wrong, length
	}
	return Name, length
}

func number(rest string) (Kind, int) {
	length := span(rest, isDigit)
	if length > maxDigits {
		return Wrong, length
	}
	return Number, length
}

// span tells how many bytes at the head of text are of one class.
func span(text string, class func(byte) bool) int {
	n := 0
	for n < len(text) && class(text[n]) {
		n++
	}
	return n
}

func isBlank(b byte) bool  { return b == ' ' || b == '\n' }
func isLetter(b byte) bool { return 'a' <= b && b <= 'z' }
func isDigit(b byte) bool  { return '0' <= b && b <= '9' }
