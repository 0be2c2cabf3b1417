package evaluate

import (
	"slices"
	"testing"

	"glyphs/api"
	"glyphs/array"
	"glyphs/syntax"
	"glyphs/token"
)

func read(t *testing.T, line string) *syntax.Expr {
	t.Helper()
	tokens, _, ok := token.Split(line)
	if !ok {
		t.Fatalf("Split(%q) has no tokens", line)
	}
	said, _, ok := syntax.Read(tokens)
	if !ok {
		t.Fatalf("Read(%q) has no line", line)
	}
	return said.Expr
}

func TestExprAnswersTheArrayAndItsCost(t *testing.T) {
	values := map[string]array.Array{"x": array.Of([]int64{4, 5, 6})}
	cases := []struct {
		line  string
		shape []int
		cells []int64
		cost  int
	}{
		{"7", nil, []int64{7}, 0}, {"7 8", []int{2}, []int64{7, 8}, 0}, {"x", []int{3}, []int64{4, 5, 6}, 0},
		{"3 - 2 - 1", nil, []int64{2}, 4}, {"(3 - 2) - 1", nil, []int64{0}, 4}, {"x - 1", []int{3}, []int64{3, 4, 5}, 4},
		{"1 rev x", []int{3}, []int64{5, 6, 4}, 4}, {"rev x", []int{3}, []int64{6, 5, 4}, 4}, {"rho x", []int{1}, []int64{3}, 2}, {"2 rho x", []int{2}, []int64{4, 5}, 3},
	}
	for _, c := range cases {
		made, cost, fault := Expr(read(t, c.line), values, c.cost)
		if fault != (Fault{}) || cost != c.cost || !slices.Equal(made.Shape(), c.shape) || !slices.Equal(made.Cells(), c.cells) {
			t.Errorf("Expr(%q) = %v, %d, %v", c.line, made, cost, fault)
		}
	}
}

func TestExprTellsTheFirstFaultFromTheRight(t *testing.T) {
	cases := []struct {
		line string
		want Fault
	}{
		{"x", Fault{api.ErrName, 0}}, {"x + y", Fault{api.ErrName, 4}}, {"(1 % 0) + y", Fault{api.ErrName, 10}}, {"x + 1 % 0", Fault{api.ErrDomain, 6}}, {"x + iota 5", Fault{api.ErrFuel, 4}},
		{"iota 5", Fault{api.ErrFuel, 0}}, {"1 + iota 3", Fault{api.ErrFuel, 2}}, {"1 % iota 4", Fault{api.ErrDomain, 2}}, {"iota iota 4", Fault{api.ErrRank, 0}},
	}
	for _, c := range cases {
		made, cost, fault := Expr(read(t, c.line), nil, 5)
		if fault != c.want || cost != 0 || made.Shape() != nil || made.Cells() != nil {
			t.Errorf("Expr(%q) = %v, %d, %v, want %v", c.line, made, cost, fault, c.want)
		}
	}
}
