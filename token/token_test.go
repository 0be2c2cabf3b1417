package token

import (
	"math"
	"slices"
	"strings"
	"testing"
)

const both = Ahead | Between

func TestSplitTellsKindRolesWorthTextAndPlace(t *testing.T) {
	cases := []struct {
		line string
		want []Token
	}{
		{"", nil},
		{"   ", nil},
		{"12_3", []Token{{Num, 0, 12, "12", 0}, {Num, 0, -3, "_3", 2}}},
		{" 007  _0 ", []Token{{Num, 0, 7, "007", 1}, {Num, 0, 0, "_0", 6}}},
		{"9223372036854775807_9223372036854775807", []Token{{Num, 0, math.MaxInt64, "9223372036854775807", 0}, {Num, 0, -math.MaxInt64, "_9223372036854775807", 19}}},
		{"ab1cd", []Token{{Name, 0, 0, "ab", 0}, {Num, 0, 1, "1", 2}, {Name, 0, 0, "cd", 3}}},
		{"i is isis", []Token{{Name, 0, 0, "i", 0}, {Is, 0, 0, "is", 2}, {Name, 0, 0, "isis", 5}}},
		{"(x)", []Token{{Open, 0, 0, "(", 0}, {Name, 0, 0, "x", 1}, {Close, 0, 0, ")", 2}}},
		{"-1", []Token{{Function, both, 0, "-", 0}, {Num, 0, 1, "1", 1}}},
		{"-/-\\-.-", []Token{{Function, Ahead, 0, "-/", 0}, {Function, Ahead, 0, "-\\", 2}, {Function, Between, 0, "-.", 4}, {Function, both, 0, "-", 6}}},
		{"++", []Token{{Function, both, 0, "+", 0}, {Function, both, 0, "+", 1}}},
	}
	for _, c := range cases {
		tokens, place, ok := Split(c.line)
		if !ok || place != 0 || !slices.Equal(tokens, c.want) {
			t.Errorf("Split(%q) = %v, %d, %v, want %v", c.line, tokens, place, ok, c.want)
		}
	}
}

func TestEachFunctionHasItsRoles(t *testing.T) {
	roles := map[string]Role{
		"+": both, "-": both, "*": both, "|": both,
		"%": Between, "&": Between, "!": Between, "=": Between, "<": Between,
		"iota": Ahead, "up": Ahead, "down": Ahead, "flip": Ahead, "ravel": Ahead,
		"rho": both, "rev": both,
		"take": Between, "drop": Between, "cat": Between, "in": Between, "at": Between, "keep": Between,
	}
	for _, sign := range []string{"+", "-", "*", "%", "|", "&", "!", "=", "<"} {
		roles[sign+"/"] = Ahead
		roles[sign+"\\"] = Ahead
		roles[sign+"."] = Between
	}
	for text, want := range roles {
		tokens, _, ok := Split(text)
		if !ok || !slices.Equal(tokens, []Token{{Function, want, 0, text, 0}}) {
			t.Errorf("Split(%q) = %v, %v, want one function with roles %d", text, tokens, ok, want)
		}
	}
}

func TestSplitTellsTheFirstByteThatBeginsNoToken(t *testing.T) {
	cases := []struct {
		line  string
		place int
	}{
		{"_", 0}, {"1 _", 2}, {"1_", 1}, {"__1", 0}, {"_ 1", 0}, {"_x", 0},
		{"+ /", 2}, {"+//", 2}, {"x/", 1}, {"1.", 1}, {"(\\", 1},
		{"abcde", 0}, {"1 abcde ?", 2}, {"iotas", 0}, {"uprev", 0}, {"ravels", 0}, {"xravel", 0},
		{"X", 0}, {"x\tx", 1}, {"x\x00", 1}, {"1\xff", 1}, {"1 é", 2}, {"٣", 0},
		{strings.Repeat("1", 20), 0}, {"x _" + strings.Repeat("0", 20), 2},
		{"9223372036854775808", 0}, {"1 _9223372036854775808", 2},
	}
	for _, c := range cases {
		tokens, place, ok := Split(c.line)
		if ok || place != c.place || tokens != nil {
			t.Errorf("Split(%q) = %v, %d, %v, want place %d", c.line, tokens, place, ok, c.place)
		}
	}
}
