package syntax

import (
	"fmt"
	"strings"
	"testing"

	"glyphs/api"
	"glyphs/token"
)

func split(t *testing.T, line string) []token.Token {
	t.Helper()
	tokens, place, ok := token.Split(line)
	if !ok {
		t.Fatalf("Split(%q): no token at %d", line, place)
	}
	return tokens
}

// shown writes an EXPR with all its parentheses.
func shown(e *Expr) string {
	switch {
	case e.Head.Kind == token.Num:
		return strings.Trim(fmt.Sprint(e.Numbers), "[]")
	case e.Head.Kind == token.Name:
		return e.Head.Text
	case e.Left == nil:
		return "(" + e.Head.Text + " " + shown(e.Right) + ")"
	}
	return "(" + shown(e.Left) + " " + e.Head.Text + " " + shown(e.Right) + ")"
}

func nested(depth int) string {
	return strings.Repeat("(", depth) + "1" + strings.Repeat(")", depth)
}

func TestLinesAreTaken(t *testing.T) {
	lines := []string{
		"1", "1 2 3", "x", "(x)", "x is 1", "x is - x", "- - 1", "1 - - 1", "rho 2 rho 3",
		"(1 2) at (x) cat up y", "+/ +\\ 1 +. 2", nested(api.MaxDepth),
		nested(api.MaxDepth) + "+" + nested(api.MaxDepth),
	}
	for _, line := range lines {
		if _, stray, ok := Read(split(t, line)); !ok || stray != 0 {
			t.Errorf("Read(%q) = %d, %v", line, stray, ok)
		}
	}
}

func TestReadAnswersWhatALineSays(t *testing.T) {
	cases := []struct{ line, name, expr string }{
		{"1", "", "1"}, {"1 _2 3", "", "1 -2 3"}, {"x", "", "x"}, {"((x))", "", "x"}, {"x is 1", "x", "1"}, {"isis is x", "isis", "x"},
		{"- - 1", "", "(- (- 1))"}, {"1 - 2 - 3", "", "(1 - (2 - 3))"}, {"(1 - 2) - 3", "", "((1 - 2) - 3)"}, {"1 - - 3", "", "(1 - (- 3))"},
		{"2 rho rho 3 4", "", "(2 rho (rho 3 4))"}, {"x is (up y) at y +. +/ 1 2", "x", "((up y) at (y +. (+/ 1 2)))"}, {"(1 2)at(x)", "", "(1 2 at x)"},
	}
	for _, c := range cases {
		line, stray, ok := Read(split(t, c.line))
		if !ok || stray != 0 || line.Name != c.name || shown(line.Expr) != c.expr {
			t.Errorf("Read(%q) = %q, %s, want %q, %s", c.line, line.Name, shown(line.Expr), c.name, c.expr)
		}
	}
}

func TestTheFirstStrayTokenIsTold(t *testing.T) {
	cases := []struct {
		line  string
		stray int
	}{
		{"is", 0}, {")", 0}, {"x is is", 2}, {"x is y is", 3}, {"1 is", 1}, {"(x is", 2}, {"x + y is", 3},
		{"1 x", 1}, {"x 1", 1}, {"1 2 (", 2}, {"(1) x", 3}, {"1 )", 1}, {"( )", 1}, {"(1 2))", 4},
		{"take 1", 0}, {"1 + take 1", 2}, {"% 1", 0}, {"+. 1", 0}, {"1 +/ 2", 1}, {"1 iota 2", 1}, {"(1) up 2", 3},
		{nested(api.MaxDepth + 1), api.MaxDepth},
		{nested(api.MaxDepth) + "+" + nested(api.MaxDepth+1), 3*api.MaxDepth + 2},
	}
	for _, c := range cases {
		if line, stray, ok := Read(split(t, c.line)); ok || stray != c.stray || line != (Line{}) {
			t.Errorf("Read(%q) = %d, %v, want %d", c.line, stray, ok, c.stray)
		}
	}
}

func TestALineThatStopsShortHasNoStrayToken(t *testing.T) {
	for _, line := range []string{"", "x is", "+", "1 +", "(", "(1", "((1)", "1 2 at up", "x is (y"} {
		tokens := split(t, line)
		if _, stray, ok := Read(tokens); ok || stray != len(tokens) {
			t.Errorf("Read(%q) = %d, %v, want %d", line, stray, ok, len(tokens))
		}
	}
}
