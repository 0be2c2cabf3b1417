// Package syntax reads tokens by the grammar of a LINE.
package syntax

import (
	"glyphs/api"
	"glyphs/token"
)

// Line is what a LINE says: an EXPR, and the NAME that is to keep what it
// makes, or no text.
type Line struct {
	Name string
	Expr *Expr
}

// Expr is an EXPR by its head: a function with what it works on (Left is nil
// if there is no THING ahead of it), a NAME, or the first NUM of Numbers.
type Expr struct {
	Head    token.Token
	Left    *Expr
	Right   *Expr
	Numbers []int64
}

// reader goes through tokens from the left. Where a method answers false,
// next is the first token that can't be there.
type reader struct {
	tokens []token.Token
	next   int
	open   int
}

// Read answers the LINE that tokens are. If they are none it answers false,
// and the index of the first one with which no LINE begins: how many there
// are, if each could be.
func Read(tokens []token.Token) (Line, int, bool) {
	r := reader{tokens: tokens}
	line, ok := r.line()
	if !ok || r.next < len(tokens) {
		return Line{}, r.next, false
	}
	return line, 0, true
}

func (r *reader) line() (Line, bool) {
	name := ""
	if len(r.tokens) > 1 && r.tokens[0].Kind == token.Name && r.tokens[1].Kind == token.Is {
		name = r.tokens[0].Text
		r.next = 2
	}
	expr, ok := r.expr()
	return Line{name, expr}, ok
}

func (r *reader) expr() (*Expr, bool) {
	if head, ok := r.function(token.Ahead); ok {
		right, ok := r.expr()
		return &Expr{Head: head, Right: right}, ok
	}
	left, ok := r.thing()
	if !ok {
		return nil, false
	}
	head, ok := r.function(token.Between)
	if !ok {
		return left, true
	}
	right, ok := r.expr()
	return &Expr{Head: head, Left: left, Right: right}, ok
}

func (r *reader) thing() (*Expr, bool) {
	if head, ok := r.accept(token.Num); ok {
		return &Expr{Head: head, Numbers: r.numbers(head.Worth)}, true
	}
	if head, ok := r.accept(token.Name); ok {
		return &Expr{Head: head}, true
	}
	return r.inParens()
}

func (r *reader) numbers(first int64) []int64 {
	numbers := []int64{first}
	for {
		num, ok := r.accept(token.Num)
		if !ok {
			return numbers
		}
		numbers = append(numbers, num.Worth)
	}
}

func (r *reader) inParens() (*Expr, bool) {
	if r.open == api.MaxDepth {
		return nil, false
	}
	if _, ok := r.accept(token.Open); !ok {
		return nil, false
	}
	r.open++
	expr, ok := r.expr()
	if !ok {
		return nil, false
	}
	_, ok = r.accept(token.Close)
	r.open--
	return expr, ok
}

func (r *reader) function(role token.Role) (token.Token, bool) {
	return r.acceptIf(func(t token.Token) bool { return t.Roles&role != 0 })
}

func (r *reader) accept(kind token.Kind) (token.Token, bool) {
	return r.acceptIf(func(t token.Token) bool { return t.Kind == kind })
}

func (r *reader) acceptIf(fits func(token.Token) bool) (token.Token, bool) {
	if r.next == len(r.tokens) || !fits(r.tokens[r.next]) {
		return token.Token{}, false
	}
	r.next++
	return r.tokens[r.next-1], true
}
