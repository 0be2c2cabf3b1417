package array

import (
	"math"
	"slices"
	"testing"

	"glyphs/api"
)

func arr(shape []int, cells ...int64) Array { return Array{shape, cells} }

func isSame(a, b Array) bool {
	return slices.Equal(a.shape, b.shape) && slices.Equal(a.cells, b.cells)
}

func cloned(a Array) Array { return Array{a.Shape(), a.Cells()} }

var words = struct{ ahead, between []string }{
	[]string{"iota", "rho", "rev", "up", "down", "flip", "ravel", "+", "-", "*", "|"},
	[]string{"rho", "rev", "take", "drop", "cat", "in", "at", "keep"},
}

var signTexts = []string{"+", "-", "*", "%", "|", "&", "!", "=", "<"}

func allOnes() []string {
	texts := slices.Clone(words.ahead)
	for _, sign := range signTexts {
		texts = append(texts, sign+"/", sign+"\\")
	}
	return texts
}

func allTwos() []string {
	texts := slices.Clone(words.between)
	for _, sign := range signTexts {
		texts = append(texts, sign, sign+".")
	}
	return texts
}

func samples() []Array {
	return []Array{
		scalar(0), scalar(2), scalar(-3), scalar(65), scalar(math.MaxInt64), scalar(math.MinInt64),
		row(nil), row([]int64{4}), row([]int64{1, 2}), row([]int64{3, 0, -1, 3}), row(make([]int64, 100)),
		arr([]int{2, 3}, 5, 4, 3, 2, 1, 0), arr([]int{2, 0}), arr([]int{0, 3}),
		arr([]int{2, 1, 2}, 1, 0, 1, 2), arr([]int{64, 64, 0}), arr([]int{0, 64, 64}), arr([]int{2, 0, 3}),
	}
}

func checkMade(t *testing.T, text string, made Array, err api.Errno) {
	t.Helper()
	if err != api.OK {
		if made.shape != nil || made.cells != nil {
			t.Errorf("P1: %s answers %v beside the error %d", text, made, err)
		}
		return
	}
	if made.rank() > api.MaxRank || count(made.shape) != made.Size() {
		t.Errorf("%s makes %v: its shape is not that of its cells", text, made)
	}
}

func TestFunctionsMakeWholeArraysAndWriteIntoNone(t *testing.T) {
	for _, b := range samples() {
		was := cloned(b)
		for _, text := range allOnes() {
			made, err := FindOne(text)(b)
			checkMade(t, text, made, err)
			if !isSame(b, was) {
				t.Fatalf("%s wrote into its array: %v, which was %v", text, b, was)
			}
		}
		for _, text := range allTwos() {
			for _, a := range samples() {
				ahead := cloned(a)
				made, err := FindTwo(text)(a, b)
				checkMade(t, text, made, err)
				if !isSame(a, ahead) || !isSame(b, was) {
					t.Fatalf("%s wrote into its arrays: %v %v, which were %v %v", text, a, b, ahead, was)
				}
			}
		}
	}
}

// Arrays share lists, so what one function makes must outlive the next one.
func TestAnArrayStaysAsItWasMade(t *testing.T) {
	for _, b := range samples() {
		for _, first := range allOnes() {
			made, err := FindOne(first)(b)
			if err != api.OK {
				continue
			}
			was := cloned(made)
			for _, second := range allOnes() {
				FindOne(second)(made)
			}
			if !isSame(made, was) {
				t.Errorf("what %s made became %v, and was %v", first, made, was)
			}
		}
	}
}

func TestOfMakesAScalarOfOneNumberAndARowOfMore(t *testing.T) {
	numbers := []int64{7, 8, 9}
	one, more := Of(numbers[:1]), Of(numbers)
	numbers[0] = 1
	if !isSame(one, scalar(7)) || !isSame(more, row([]int64{7, 8, 9})) || more.Size() != 3 {
		t.Errorf("Of makes %v and %v", one, more)
	}
}

func TestShapeAndCellsAreCopies(t *testing.T) {
	a := arr([]int{1, 2}, 5, 6)
	a.Shape()[0], a.Cells()[0] = 77, 77
	if !isSame(a, arr([]int{1, 2}, 5, 6)) {
		t.Errorf("the array became %v", a)
	}
}

func TestFitsHoldsLengthsAndCellsAgainstTheBound(t *testing.T) {
	for _, shape := range [][]int{nil, {0}, {64}, {8, 8}, {64, 1}, {4, 4, 4}, {64, 64, 0}, {0, 64, 64}} {
		if !fits(shape) {
			t.Errorf("%v does not fit", shape)
		}
	}
	for _, shape := range [][]int{{65}, {8, 9}, {65, 0}, {0, 65}, {4, 4, 5}, {64, 2}, {0, 0, 65}} {
		if fits(shape) {
			t.Errorf("%v fits", shape)
		}
	}
}

func TestOverIsTheGreatestWholeNumberNotAboveTheQuotient(t *testing.T) {
	for a := int64(-20); a <= 20; a++ {
		for b := int64(-20); b <= 20; b++ {
			quotient, err := over(a, b)
			want := int64(math.Floor(float64(a) / float64(b)))
			if b == 0 && err != api.ErrDomain || b != 0 && (err != api.OK || quotient != want) {
				t.Errorf("%d over %d = %d, %d", a, b, quotient, err)
			}
		}
	}
}

func TestRestIsWithinItsDivisor(t *testing.T) {
	for a := int64(-20); a <= 20; a++ {
		for b := int64(-20); b <= 20; b++ {
			left, err := rest(a, b)
			within := a > 0 && 0 <= left && left < a || a < 0 && a < left && left <= 0 || a == 0 && left == b
			if err != api.OK || !within || a != 0 && (b-left)%a != 0 {
				t.Errorf("the rest of %d by %d = %d, %d", b, a, left, err)
			}
		}
	}
}
