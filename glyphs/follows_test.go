package glyphs_test

import (
	"math"
	"math/rand"
	"slices"
	"strconv"
	"strings"
	"testing"

	"glyphs/api"
	"glyphs/glyphs"
)

// The sentences of P7, on a desk where bb is the array that they speak of.

// someRows are rows of no cell up to MaxCells, some of them with cells that are
// the same, and with the numbers' ends.
var someRows = []string{
	"iota 0", "ravel 4", "ravel k", "ravel g", "0 0", "1 0", "3 1 2", "5 _1 5 2 5", "k cat g", "g cat k cat 0 cat k cat g cat _1", "rev iota 7", "2 | iota 9", "8 take 3 1", "_8 take 3 1", "iota 63", "iota 64", "rev iota 64", "64 rho 3 _1 3 0 2", "64 rho g cat k cat 0", "(iota 64) * 1000003 - 77 * iota 64",
}

var someArrays = append([]string{
	"0", "_7", "g", "k", "rho 5",
	"1 1 rho 5", "2 3 rho iota 6", "3 2 rho iota 6", "5 1 rho iota 5", "1 5 rho iota 5", "8 8 rho iota 64", "64 1 rho iota 64", "1 64 rho iota 64", "3 4 rho g cat k", "0 3 rho 1", "2 0 rho 1", "0 0 rho 1", "64 0 rho 1",
	"1 1 1 rho 5", "2 2 2 rho iota 8", "1 2 3 rho iota 6", "3 1 2 rho iota 6", "3 2 1 rho iota 6", "2 3 4 rho iota 24", "4 4 4 rho iota 64", "2 3 2 rho k cat g", "0 2 3 rho 1", "2 0 3 rho 1", "2 3 0 rho 1", "64 64 0 rho 1", "0 0 0 rho 1",
}, someRows...)

// eachOf makes bb each of the arrays, and hands what it is to check.
func eachOf(t *testing.T, texts []string, check func(d *glyphs.Desk, text string, bb api.Reply)) {
	t.Helper()
	d := deskWithArrays(t, api.MaxFuel)
	for _, text := range texts {
		bb := runOne(t, d, "bb is "+text)
		if bb.Err != api.OK {
			t.Fatalf("P6: %q makes %s", text, told(bb))
		}
		check(d, text, bb)
	}
}

func checkMakes(t *testing.T, d *glyphs.Desk, line, text string, want api.Reply) {
	t.Helper()
	if got := told(runOne(t, d, line)); got != told(want) {
		t.Errorf("P7: of bb, which is %s, %q makes %s, want %s", text, line, got, told(want))
	}
}

func TestTurnedRoundTwiceItIsItself(t *testing.T) {
	eachOf(t, someArrays, func(d *glyphs.Desk, text string, bb api.Reply) {
		checkMakes(t, d, "rev rev bb", text, bb)
		checkMakes(t, d, "flip flip bb", text, bb)
	})
}

func TestTurnedOnAndBackItIsItself(t *testing.T) {
	by := []string{"9223372036854775807", "_9223372036854775807", "9223372036854775806", "_9223372036854775806", "(k + 1)", "(g - 1)", "4611686018427387904", "_4611686018427387905"}
	for a := -66; a <= 66; a++ {
		by = append(by, strings.Replace(strconv.Itoa(a), "-", "_", 1))
	}
	eachOf(t, someArrays, func(d *glyphs.Desk, text string, bb api.Reply) {
		for _, a := range by {
			checkMakes(t, d, "(0 - "+a+") rev "+a+" rev bb", text, bb)
			checkMakes(t, d, a+" rev (0 - "+a+") rev bb", text, bb)
		}
	})
}

func TestTurnedOnByTheLeastNumber(t *testing.T) {
	// 2 to the 63rd leaves 2 by 3, and 3 by 5, so the least number turns 3
	// cells on by 1 and 5 by 2; and it is 0 less itself.
	checkRun(t, deskWithArrays(t, api.MaxFuel), []answered{
		{"k rev iota 3", "3:1 2 0"}, {"k rev iota 5", "5:2 3 4 0 1"}, {"k rev iota 4", "4:0 1 2 3"}, {"(0 - k) rev k rev iota 4", "4:0 1 2 3"}, {"(0 - k) rev k rev iota 3", "3:2 0 1"}, {"k rev iota 0", "0:"}, {"k rev 5", ":5"},
	})
}

func TestWhatIsTakenAndWhatIsDroppedMakeTheRow(t *testing.T) {
	eachOf(t, someRows, func(d *glyphs.Desk, text string, bb api.Reply) {
		for a := range len(bb.Cells) + 1 {
			n := strconv.Itoa(a)
			checkMakes(t, d, "("+n+" take bb) cat "+n+" drop bb", text, bb)
		}
	})
}

func TestTheCellsAtUpAreInOrder(t *testing.T) {
	eachOf(t, someRows, func(d *glyphs.Desk, text string, bb api.Reply) {
		slices.Sort(bb.Cells)
		checkMakes(t, d, "(up bb) at bb", text, bb)
		slices.Reverse(bb.Cells)
		checkMakes(t, d, "(down bb) at bb", text, bb)
	})
}

func TestOfItsShapeAndItsCellsItIsMadeAgain(t *testing.T) {
	eachOf(t, someArrays, func(d *glyphs.Desk, text string, bb api.Reply) {
		checkMakes(t, d, "(rho bb) rho ravel bb", text, bb)
	})
}

// checkLastOfScan answers whether there was a last cell to look at: where one
// of the places has an error there is none.
func checkLastOfScan(t *testing.T, d *glyphs.Desk, sign, text string) bool {
	t.Helper()
	fold, scan := runOne(t, d, sign+"/ bb"), runOne(t, d, sign+"\\ bb")
	if scan.Err != api.OK {
		if sign != "%" || scan.Err != api.ErrDomain {
			t.Errorf("P7: of %s, %s\\ makes %s", text, sign, told(scan))
		}
		return false
	}
	last := scan.Cells[len(scan.Cells)-1:]
	if fold.Err != api.OK || len(fold.Shape) != 0 || !slices.Equal(fold.Cells, last) {
		t.Errorf("P7: of %s, %s/ makes %s and %s\\ makes %s", text, sign, told(fold), sign, told(scan))
	}
	return true
}

func TestTheLastCellOfScanIsFold(t *testing.T) {
	eachOf(t, someRows, func(d *glyphs.Desk, text string, bb api.Reply) {
		if len(bb.Cells) == 0 {
			return
		}
		for _, sign := range allSigns {
			checkLastOfScan(t, d, sign, text)
		}
	})
	seen := make(map[string]int)
	eachOf(t, randomRows(200), func(d *glyphs.Desk, text string, _ api.Reply) {
		for _, sign := range allSigns {
			if checkLastOfScan(t, d, sign, text) {
				seen[sign]++
			}
		}
	})
	for _, sign := range allSigns {
		if seen[sign] < 30 {
			t.Errorf("P7: only %d rows had a %s\\ without an error", seen[sign], sign)
		}
	}
}

func TestTheSentencesHoldOnRandomRows(t *testing.T) {
	eachOf(t, randomRows(200), func(d *glyphs.Desk, text string, bb api.Reply) {
		checkMakes(t, d, "rev rev bb", text, bb)
		checkMakes(t, d, "flip flip bb", text, bb)
		checkMakes(t, d, "(rho bb) rho ravel bb", text, bb)
		// The least number is left out; the next one to it stands in for it.
		for _, a := range bb.Cells {
			a = max(a, -math.MaxInt64)
			n := strings.Replace(strconv.FormatInt(a, 10), "-", "_", 1)
			checkMakes(t, d, "(0 - "+n+") rev "+n+" rev bb", text, bb)
		}
		slices.Sort(bb.Cells)
		checkMakes(t, d, "(up bb) at bb", text, bb)
	})
}

// randomRows tells rows of 1 to 8 cells, the same ones in every run.
func randomRows(n int) []string {
	source := rand.New(rand.NewSource(7))
	ends := []string{"g", "k", "9223372036854775806", "_9223372036854775807", "0", "1", "_1"}
	var rows []string
	for range n {
		row := "iota 0"
		for range 1 + source.Intn(8) {
			cell := strconv.Itoa(source.Intn(12))
			switch source.Intn(4) {
			case 0:
				cell = ends[source.Intn(len(ends))]
			case 1:
				cell = "_" + cell
			}
			row = cell + " cat " + row
		}
		rows = append(rows, row)
	}
	return rows
}
