// Package token splits a line into its tokens.
package token

import (
	"strconv"
	"strings"

	"glyphs/api"
)

// Kind is what a token is in a line.
type Kind int

const (
	Num Kind = iota
	Name
	Is
	Function
	Open
	Close
)

// Role is how a function may stand; one that may stand both ways has both bits.
type Role int

const (
	Ahead   Role = 1 << iota // with no THING ahead of it
	Between                  // with a THING ahead of it
)

const maxDigits = 19

const (
	signs     = "+-*%|&!=<"
	loneSigns = "+-*|" // those that may stand with no THING ahead
	tails     = "/\\."
)

// Token is one piece of a line. Only a Function has roles, only a Num a worth.
type Token struct {
	Kind  Kind
	Roles Role
	Worth int64
	Text  string
	Place int
}

// Split answers the tokens of a line. If a byte begins no token it answers
// that byte's place and false.
func Split(line string) ([]Token, int, bool) {
	var tokens []Token
	for place := 0; place < len(line); {
		if line[place] == ' ' {
			place++
			continue
		}
		first, ok := cut(line[place:])
		if !ok {
			return nil, place, false
		}
		first.Place = place
		tokens = append(tokens, first)
		place += len(first.Text)
	}
	return tokens, 0, true
}

// cut takes the token that a text with bytes begins with.
func cut(text string) (Token, bool) {
	head := text[0]
	switch {
	case head == '(':
		return Token{Kind: Open, Text: text[:1]}, true
	case head == ')':
		return Token{Kind: Close, Text: text[:1]}, true
	case head == '_' || isDigit(head):
		return cutNumber(text)
	case isLetter(head):
		return cutWord(text)
	case strings.IndexByte(signs, head) >= 0:
		return cutSign(text), true
	}
	return Token{}, false
}

func cutNumber(text string) (Token, bool) {
	start := 0
	if text[0] == '_' {
		start = 1
	}
	end := start + countWhile(text[start:], isDigit)
	digits := text[start:end]
	// Zeros in front don't raise the worth, so the digits are counted too.
	if len(digits) > maxDigits {
		return Token{}, false
	}
	// The bound is the same with `_` ahead, so the sign stays out of it; a `_`
	// without digits has an empty text here, which is refused too.
	worth, err := strconv.ParseInt(digits, 10, 64)
	if err != nil {
		return Token{}, false
	}
	if start > 0 {
		worth = -worth
	}
	return Token{Kind: Num, Worth: worth, Text: text[:end]}, true
}

func cutWord(text string) (Token, bool) {
	word := text[:countWhile(text, isLetter)]
	if roles := wordRoles(word); roles != 0 {
		return Token{Kind: Function, Roles: roles, Text: word}, true
	}
	if word == "is" {
		return Token{Kind: Is, Text: word}, true
	}
	return Token{Kind: Name, Text: word}, len(word) <= api.MaxName
}

func cutSign(text string) Token {
	width := 1
	if len(text) > 1 && strings.IndexByte(tails, text[1]) >= 0 {
		width = 2
	}
	sign := text[:width]
	return Token{Kind: Function, Roles: signRoles(sign), Text: sign}
}

// wordRoles answers no role for a word that is no function.
func wordRoles(word string) Role {
	switch word {
	case "iota", "up", "down", "flip", "ravel":
		return Ahead
	case "rho", "rev":
		return Ahead | Between
	case "take", "drop", "cat", "in", "at", "keep":
		return Between
	}
	return 0
}

func signRoles(sign string) Role {
	switch {
	case strings.HasSuffix(sign, "."):
		return Between
	case len(sign) > 1:
		return Ahead
	case strings.Contains(loneSigns, sign):
		return Ahead | Between
	}
	return Between
}

func isDigit(b byte) bool { return '0' <= b && b <= '9' }

func isLetter(b byte) bool { return 'a' <= b && b <= 'z' }

func countWhile(text string, fits func(byte) bool) int {
	for i := range len(text) {
		if !fits(text[i]) {
			return i
		}
	}
	return len(text)
}
