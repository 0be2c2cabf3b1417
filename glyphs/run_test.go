package glyphs_test

import (
	"math"
	"slices"
	"strings"
	"sync"
	"testing"

	"glyphs/api"
	"glyphs/glyphs"
)

func checkNames(t *testing.T, d *glyphs.Desk, want ...string) {
	t.Helper()
	if names := d.Names(); !slices.Equal(names, want) {
		t.Errorf("P4: Names() = %q, want %q", names, want)
	}
}

func TestNewTakesFuelWithinItsBounds(t *testing.T) {
	for _, fuel := range []int{0, 1, api.MaxFuel - 1, api.MaxFuel} {
		checkNames(t, newDesk(t, fuel))
	}
	for _, fuel := range []int{-1, api.MaxFuel + 1, math.MinInt, math.MaxInt} {
		if d, err := glyphs.New(fuel); d != nil || err != api.ErrRange {
			t.Errorf("P4: New(%d) = %v, %d", fuel, d, err)
		}
	}
}

func TestADeskThatNewRefusedAnswersNothing(t *testing.T) {
	d, _ := glyphs.New(-1)
	if replies := d.Run("x is 3"); len(replies) != 0 {
		t.Errorf("P1: Run on no desk = %v", replies)
	}
	checkNames(t, d)
}

func TestThings(t *testing.T) {
	checkRun(t, newDesk(t, 0), []answered{
		{"5", ":5"}, {"_5", ":-5"}, {"_0", ":0"}, {"007", ":7"}, {"5 6", "2:5 6"}, {"5_6", "2:5 -6"}, {"(5)", ":5"}, {"((5 6))", "2:5 6"},
		{"9223372036854775807", ":" + most}, {"_9223372036854775807", ":-" + most},
		{nums(64), "64:" + nums(64)}, {nums(65), "65:" + nums(65)}, {nums(100), "100:" + nums(100)},
		{"x is " + nums(98), "98:" + nums(98)}, {"x", "98:" + nums(98)},
	})
}

func TestALineIsWorkedOutFromTheRight(t *testing.T) {
	checkRun(t, newDesk(t, 1000), []answered{
		{"3 - 2 - 1", ":2"}, {"(3 - 2) - 1", ":0"}, {"2 * 3 + 4", ":14"}, {"- 3 - 5", ":2"}, {"10 - - 3", ":13"}, {"1 2 + 3 4 * 2", "2:7 10"}, {"-/ 1 2 3", ":2"}, {"2 2 rho (1 + 2)", "2 2:3 3 3 3"},
		{"(1 % 0) + iota _1", "ErrDomain 10"}, {"(iota _1) + 1 % 0", "ErrDomain 14"}, {"(iota _1) + 1 2 at 1", "ErrRank 16"}, {"(iota _1) at 5", "ErrDomain 1"}, {"(up 1) at iota 65", "ErrSize 10"}, {"1 2 + (3 4 5 + up 1)", "ErrRank 15"}, {"1 2 + (1 2 3 + 1 2)", "ErrLength 13"}, {"iota (1 % 0)", "ErrDomain 8"},
	})
}

func TestNamesWithoutAValue(t *testing.T) {
	d := newDesk(t, 1000)
	checkRun(t, d, []answered{
		{"y", "ErrName 0"}, {"  y", "ErrName 2"}, {"y + x", "ErrName 4"}, {"x is 3", ":3"}, {"y + x", "ErrName 0"}, {"x + y", "ErrName 4"}, {"(y) + x", "ErrName 1"}, {"x is y", "ErrName 5"}, {"y is y", "ErrName 5"},
		{"(1 % 0) + y", "ErrName 10"}, {"y + 1 % 0", "ErrDomain 6"}, {"(y + 1) % 0", "ErrName 1"}, {"y % 0", "ErrName 0"}, {"y at 5", "ErrName 0"}, {"iota y", "ErrName 5"}, {"y + iota _1", "ErrDomain 4"}, {"xx", "ErrName 0"}, {"x", ":3"},
	})
	checkNames(t, d, "x")
}

func TestALineThatDoesNotParseIsAnsweredAsByParse(t *testing.T) {
	d := newDesk(t, 1000)
	checkRun(t, d, []answered{
		{"", "ErrSyntax 0"}, {"iota", "ErrSyntax 4"}, {"2 up 3", "ErrSyntax 2"}, {"x is x is 3", "ErrSyntax 7"}, {"y + 2 x", "ErrSyntax 6"}, {"1 _", "ErrToken 2"}, {"Abc", "ErrToken 0"}, {"% 3 ?", "ErrToken 4"},
		{"1" + strings.Repeat(" ", api.MaxLine), "ErrLong 0"}, {"x is ?" + strings.Repeat(" ", api.MaxLine), "ErrLong 0"}, {strings.Repeat("(", 9) + "1" + strings.Repeat(")", 9), "ErrSyntax 8"},
		{strings.Repeat("-", api.MaxLine-1) + "1", ":-1"},
	})
	checkNames(t, d)
}

func TestIsKeepsAValueFromThenOn(t *testing.T) {
	d := newDesk(t, 1000)
	checkRun(t, d, []answered{
		{"x is 3", ":3"}, {"x", ":3"}, {"b is x + iota x", "3:3 4 5"}, {"x is x - 1", ":2"}, {"x + b", "3:5 6 7"}, {"b is flip 2 2 rho b", "2 2:3 5 4 3"}, {"b", "2 2:3 5 4 3"}, {"c is b", "2 2:3 5 4 3"}, {"b is 0", ":0"}, {"c", "2 2:3 5 4 3"}, {"x is iota 0", "0:"}, {"x", "0:"}, {"x is 2 0 rho 1", "2 0:"}, {"rho x", "2:2 0"},
	})
	checkNames(t, d, "b", "c", "x")
}

func TestIsWithAnErrorChangesNothing(t *testing.T) {
	d := newDesk(t, 8)
	checkRun(t, d, []answered{
		{"x is 3", ":3"}, {"x is 1 % 0", "ErrDomain 7"}, {"x is y", "ErrName 5"}, {"x is iota 8", "ErrFuel 5"}, {"x is 1 + iota 4", "ErrFuel 7"}, {"x is", "ErrSyntax 4"}, {"x is 4 ?", "ErrToken 7"}, {"x is 4 x", "ErrSyntax 7"}, {"x is 4" + strings.Repeat(" ", api.MaxLine), "ErrLong 0"}, {"x is iota 65", "ErrSize 5"}, {"x is 3 at 1 2", "ErrIndex 7"}, {"x is up 1", "ErrRank 5"}, {"x is 1 2 + 1 2 3", "ErrLength 9"},
		{"x", ":3"}, {"a is 1 % 0", "ErrDomain 7"}, {"a is iota 8", "ErrFuel 5"}, {"a is a", "ErrName 5"}, {"a", "ErrName 0"},
	})
	checkNames(t, d, "x")
}

func TestNamesAreInTheOrderOfTheirLetters(t *testing.T) {
	d := newDesk(t, 1000)
	for _, name := range []string{"z", "b", "abc", "ab", "zzzz", "a", "ba", "aaaa", "y", "isi", "i", "b"} {
		runOne(t, d, name+" is 1")
	}
	checkNames(t, d, "a", "aaaa", "ab", "abc", "b", "ba", "i", "isi", "y", "z", "zzzz")
}

func TestCost(t *testing.T) {
	costs := map[string]int{
		"5": 0, nums(100): 0, "(5)": 0, "x is 5": 0, "+ 5": 2, "1 + 2": 2, "((1)) + (2)": 2, "iota 0": 1, "iota 4": 5, "x is iota 4": 5, "1 + iota 3": 8, "(iota 3) + iota 3": 12, "+/ 1 + iota 5": 14, "2 0 rho 1": 1, "64 64 0 rho 1": 1, "+\\ 1 2 3": 4, "-/ 1 2 3": 2, "1 2 *. 1 2 3": 7, "flip 2 3 rho iota 6": 21, "2 2 2 rho 1": 9, "up 3 1 2": 4, "rho 1 2": 2, "0 drop 5": 2, "- - 5": 4, "+ " + nums(99): 100, "0 keep 1 2": 1, "_9 take 5": 10, "1 cat 2": 3, "3 in 1 2": 2, "1 0 1 at 5 6": 4,
	}
	for line, cost := range costs {
		if r := runOne(t, newDesk(t, api.MaxFuel), line); r.Err != api.OK || r.Cost != cost {
			t.Errorf("P6: %q costs %d (error %d), want %d", line, r.Cost, r.Err, cost)
		}
		if r := runOne(t, newDesk(t, cost), line); r.Err != api.OK || r.Cost != cost {
			t.Errorf("P6: %q with the fuel %d: %+v", line, cost, r)
		}
		if cost == 0 {
			continue
		}
		if r := runOne(t, newDesk(t, cost-1), line); r.Err != api.ErrFuel || r.Shape != nil || r.Cells != nil || r.Cost != 0 {
			t.Errorf("P6: %q with the fuel %d: %+v", line, cost-1, r)
		}
	}
}

func TestFuelIsToldAtTheFunctionThatIsAboveIt(t *testing.T) {
	checkRun(t, newDesk(t, 5), []answered{
		{"iota 4", "4:0 1 2 3"}, {"iota 5", "ErrFuel 0"}, {"1 + iota 3", "ErrFuel 2"}, {"1 + iota 5", "ErrFuel 4"}, {"(iota 3) + iota 1", "ErrFuel 1"}, {"(iota 1) + iota 1", "ErrFuel 9"}, {"- - - 1", "ErrFuel 0"}, {"- - - - 1", "ErrFuel 2"}, {"- - - - - 1", "ErrFuel 4"}, {"- (- - - 1) + 2", "ErrFuel 3"},
	})
	checkRun(t, newDesk(t, 0), []answered{{"1 2", "2:1 2"}, {"iota 0", "ErrFuel 0"}, {"x is 3", ":3"}, {"x + x", "ErrFuel 2"}, {"x", ":3"}})
}

func TestAFunctionsOwnErrorIsToldAheadOfTheFuels(t *testing.T) {
	checkRun(t, newDesk(t, 5), []answered{
		{"1 % iota 4", "ErrDomain 2"}, {"up - - 1", "ErrRank 0"}, {"1 2 + iota 4", "ErrLength 4"}, {"9 at iota 4", "ErrIndex 2"}, {"65 take iota 4", "ErrSize 3"}, {"iota 65", "ErrSize 0"},
	})
	checkRun(t, newDesk(t, 0), []answered{{"1 % 0", "ErrDomain 2"}, {"iota _1", "ErrDomain 0"}, {"up 5", "ErrRank 0"}, {"iota 1", "ErrFuel 0"}})
}

func TestNamesAndFuelAreToldAsTheLineIsWorkedOut(t *testing.T) {
	checkRun(t, newDesk(t, 5), []answered{
		{"y + iota 4", "ErrName 0"}, {"y + iota 5", "ErrFuel 4"}, {"(iota 5) + y", "ErrName 11"}, {"(1 % 0) + iota 5", "ErrFuel 10"}, {"1 % iota 5", "ErrFuel 4"}, {"(iota 65) + iota 5", "ErrFuel 12"}, {"iota 5 + y", "ErrName 9"},
	})
}

func TestTheFuelIsEachLinesOwn(t *testing.T) {
	d := newDesk(t, 5)
	for range 3 {
		checkRun(t, d, []answered{{"iota 4", "4:0 1 2 3"}, {"iota 5", "ErrFuel 0"}, {"x is iota 4", "4:0 1 2 3"}})
	}
}

func TestMaxFuelBoundsALongLine(t *testing.T) {
	d := newDesk(t, api.MaxFuel)
	// Each of the 15 functions on 64 cells costs 65, and `iota 24` the rest.
	just := strings.Repeat("+", 14) + " 64 take iota 24"
	if r := runOne(t, d, just); r.Err != api.OK || r.Cost != 1000 {
		t.Errorf("P6: %q makes %s for %d, want 1000", just, told(r), r.Cost)
	}
	above := strings.Repeat("+", 14) + " 64 take iota 25"
	if r := runOne(t, d, above); told(r) != "ErrFuel 0" {
		t.Errorf("P6: %q makes %s", above, told(r))
	}
}

func TestDesksAreApart(t *testing.T) {
	a, b := newDesk(t, 5), newDesk(t, 6)
	checkRun(t, a, []answered{{"x is 1", ":1"}, {"iota 5", "ErrFuel 0"}})
	checkRun(t, b, []answered{{"x", "ErrName 0"}, {"x is 2 3", "2:2 3"}, {"y is 4", ":4"}, {"iota 5", "5:0 1 2 3 4"}})
	checkRun(t, a, []answered{{"x", ":1"}, {"y", "ErrName 0"}})
	checkNames(t, a, "x")
	checkNames(t, b, "x", "y")
}

func TestDesksAreApartAtTheSameTime(t *testing.T) {
	var group sync.WaitGroup
	for range 8 {
		d := newDesk(t, 1000)
		group.Go(func() {
			for range 50 {
				checkRun(t, d, []answered{{"x is 2 3 rho iota 6", "2 3:0 1 2 3 4 5"}, {"+/ flip x", "3:3 5 7"}, {"y is up 3 1 2", "3:1 2 0"}})
			}
			checkNames(t, d, "x", "y")
		})
	}
	group.Wait()
}

func overwrite(r api.Reply) {
	for i := range r.Shape[:cap(r.Shape)] {
		r.Shape[:cap(r.Shape)][i] = 77
	}
	for i := range r.Cells[:cap(r.Cells)] {
		r.Cells[:cap(r.Cells)][i] = 77
	}
}

func TestListsThatComeOutAreNewMemory(t *testing.T) {
	d := deskWithArrays(t, 1000)
	lines := []string{
		"s", "r", "m", "t", "x is m", "x is + x", "x", "x is ravel m", "x is 0 drop r", "x is 1 drop q", "x is _1 drop q", "x is flip r", "x is 0 rev m", "x is rev s", "x is +/ u", "x is +\\ s", "x is +/ m", "x is rho m",
		"x is e rho s", "x is r cat e", "x is 3 take r", "x is 1 keep r", "x is (iota 3) at r", "x is 2 +. 3", "x is s", "x is s + m", "x is up r", "e", "z", "iota 4", "5", "5 6",
	}
	for _, line := range lines {
		before := make(map[string]string)
		for _, name := range d.Names() {
			before[name] = told(runOne(t, d, name))
		}
		r := runOne(t, d, line)
		if name, _, ok := strings.Cut(line, " is "); ok {
			before[name] = told(r)
		}
		overwrite(r)
		for name, want := range before {
			if got := told(runOne(t, d, name)); got != want {
				t.Errorf("P2: %s makes %s when the reply to %q is written over, want %s", name, got, line, want)
			}
		}
	}
}

func TestTheRepliesOfOneNameShareNothing(t *testing.T) {
	d := deskWithArrays(t, 1000)
	first, second := runOne(t, d, "m"), runOne(t, d, "m")
	overwrite(first)
	if told(second) != "2 3:0 1 2 3 4 5" {
		t.Errorf("P2: the second reply became %s", told(second))
	}
}

func TestNamesAreNewMemory(t *testing.T) {
	d := newDesk(t, 1000)
	checkRun(t, d, []answered{{"b is 1", ":1"}, {"a is 2", ":2"}, {"c is 3", ":3"}})
	names := d.Names()
	names = names[:cap(names)]
	for i := range names {
		names[i] = "mine"
	}
	checkNames(t, d, "a", "b", "c")
}
