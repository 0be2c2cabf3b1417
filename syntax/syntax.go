// Package syntax holds tokens against the grammar of a LINE.
package syntax

import (
	"glyphs/api"
	"glyphs/token"
)

// reader goes through tokens from the left. Where a method answers false,
// next is the first token that can't be there.
type reader struct {
	tokens []token.Token
	next   int
	open   int
}

// Check tells whether tokens are a LINE. If not it answers the index of the
// first one with which no LINE begins: how many there are, if each could be.
func Check(tokens []token.Token) (int, bool) {
	r := reader{tokens: tokens}
	if !r.line() {
		return r.next, false
	}
	return 0, true
}

func (r *reader) line() bool {
	if len(r.tokens) > 1 && r.tokens[0].Kind == token.Name && r.tokens[1].Kind == token.Is {
		r.next = 2
	}
	return r.expr() && r.next == len(r.tokens)
}

// expr loops where the grammar has an EXPR at an EXPR's end, so that only
// `(` nests.
func (r *reader) expr() bool {
	for {
		if r.function(token.Ahead) {
			continue
		}
		if !r.thing() {
			return false
		}
		if !r.function(token.Between) {
			return true
		}
	}
}

func (r *reader) thing() bool {
	nums := 0
	for r.accept(token.Num) {
		nums++
	}
	return nums > 0 || r.accept(token.Name) || r.inParens()
}

func (r *reader) inParens() bool {
	if r.open == api.MaxDepth || !r.accept(token.Open) {
		return false
	}
	r.open++
	if !r.expr() || !r.accept(token.Close) {
		return false
	}
	r.open--
	return true
}

func (r *reader) function(role token.Role) bool {
	if r.next < len(r.tokens) && r.tokens[r.next].Roles&role != 0 {
		r.next++
		return true
	}
	return false
}

func (r *reader) accept(kind token.Kind) bool {
	if r.next < len(r.tokens) && r.tokens[r.next].Kind == kind {
		r.next++
		return true
	}
	return false
}
