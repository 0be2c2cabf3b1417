package glyphs_test

import (
	"fmt"
	"strings"
	"testing"

	"glyphs/api"
	"glyphs/glyphs"
)

func newDesk(t *testing.T, fuel int) *glyphs.Desk {
	t.Helper()
	d, err := glyphs.New(fuel)
	if d == nil || err != api.OK {
		t.Fatalf("P4: New(%d) = %v, %d", fuel, d, err)
	}
	return d
}

func runOne(t *testing.T, d *glyphs.Desk, line string) api.Reply {
	t.Helper()
	replies := d.Run(line)
	if len(replies) != 1 {
		t.Fatalf("P5: Run(%q) answers %d replies", line, len(replies))
	}
	return replies[0]
}

// arrays are values of all ranks and of the numbers' ends, by their names. None
// costs more than 21.
var arrays = []string{
	"s is 3", "n is _2", "o is 0", "g is 9223372036854775807", "k is _9223372036854775807 - 1",
	"e is iota 0", "u is ravel 4", "r is 1 2 3", "q is 5 _1 5 2", "h is " + nums(90),
	"m is 2 3 rho iota 6", "c is 2 2 rho 7 _3 0 1", "z is 2 0 rho 1", "y is 0 3 rho 1",
	"t is 2 2 2 rho iota 8", "b is 1 2 3 rho 9 - iota 6", "w is 64 64 0 rho 1", "v is 0 64 64 rho 1",
}

func deskWithArrays(t *testing.T, fuel int) *glyphs.Desk {
	t.Helper()
	d := newDesk(t, fuel)
	for _, line := range arrays {
		if r := runOne(t, d, line); r.Err != api.OK {
			t.Fatalf("P6: %q makes %+v", line, r)
		}
	}
	return d
}

func nums(n int) string { return strings.TrimSuffix(strings.Repeat("1 ", n), " ") }

var errorNames = []string{
	"OK", "ErrLong", "ErrToken", "ErrSyntax", "ErrName", "ErrRank", "ErrLength",
	"ErrDomain", "ErrIndex", "ErrSize", "ErrFuel", "ErrRange",
}

// told writes a reply but for its cost: `2 2:1 2 3 4`, or `ErrRank 4`.
func told(r api.Reply) string {
	if r.Err == api.OK && r.At == 0 {
		return inner(r.Shape) + ":" + inner(r.Cells)
	}
	text := fmt.Sprintf("%s %d", errorNames[r.Err], r.At)
	if r.Shape != nil || r.Cells != nil || r.Cost != 0 {
		text += fmt.Sprintf(" with %v %v %d", r.Shape, r.Cells, r.Cost)
	}
	return text
}

func inner(list any) string { return strings.Trim(fmt.Sprint(list), "[]") }

type answered struct{ line, want string }

// checkRun runs each line on its desk, one call a line.
func checkRun(t *testing.T, d *glyphs.Desk, cases []answered) {
	t.Helper()
	for _, c := range cases {
		if got := told(runOne(t, d, c.line)); got != c.want {
			t.Errorf("P6: %q makes %s, want %s", c.line, got, c.want)
		}
	}
}
