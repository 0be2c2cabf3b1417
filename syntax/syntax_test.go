package syntax

import (
	"strings"
	"testing"

	"glyphs/api"
	"glyphs/token"
)

func split(t *testing.T, line string) []token.Token {
	t.Helper()
	tokens, place, ok := token.Split(line)
	if !ok {
		t.Fatalf("Split(%q): no token at %d", line, place)
	}
	return tokens
}

func nested(depth int) string {
	return strings.Repeat("(", depth) + "1" + strings.Repeat(")", depth)
}

func TestLinesAreTaken(t *testing.T) {
	lines := []string{
		"1", "1 2 3", "x", "(x)", "x is 1", "x is - x", "- - 1", "1 - - 1", "rho 2 rho 3",
		"(1 2) at (x) cat up y", "+/ +\\ 1 +. 2", nested(api.MaxDepth),
		nested(api.MaxDepth) + "+" + nested(api.MaxDepth),
	}
	for _, line := range lines {
		if stray, ok := Check(split(t, line)); !ok || stray != 0 {
			t.Errorf("Check(%q) = %d, %v", line, stray, ok)
		}
	}
}

func TestTheFirstStrayTokenIsTold(t *testing.T) {
	cases := []struct {
		line  string
		stray int
	}{
		{"is", 0}, {")", 0}, {"x is is", 2}, {"x is y is", 3}, {"1 is", 1}, {"(x is", 2}, {"x + y is", 3},
		{"1 x", 1}, {"x 1", 1}, {"1 2 (", 2}, {"(1) x", 3}, {"1 )", 1}, {"( )", 1}, {"(1 2))", 4},
		{"take 1", 0}, {"1 + take 1", 2}, {"% 1", 0}, {"+. 1", 0}, {"1 +/ 2", 1}, {"1 iota 2", 1}, {"(1) up 2", 3},
		{nested(api.MaxDepth + 1), api.MaxDepth},
		{nested(api.MaxDepth) + "+" + nested(api.MaxDepth+1), 3*api.MaxDepth + 2},
	}
	for _, c := range cases {
		if stray, ok := Check(split(t, c.line)); ok || stray != c.stray {
			t.Errorf("Check(%q) = %d, %v, want %d", c.line, stray, ok, c.stray)
		}
	}
}

func TestALineThatStopsShortHasNoStrayToken(t *testing.T) {
	for _, line := range []string{"", "x is", "+", "1 +", "(", "(1", "((1)", "1 2 at up", "x is (y"} {
		tokens := split(t, line)
		if stray, ok := Check(tokens); ok || stray != len(tokens) {
			t.Errorf("Check(%q) = %d, %v, want %d", line, stray, ok, len(tokens))
		}
	}
}
