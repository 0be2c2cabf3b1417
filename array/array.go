// Package array has arrays, and what each function makes of them.
package array

import (
	"slices"

	"glyphs/api"
)

// Array is a shape and as many cells as it makes; the last index runs first.
// Arrays share lists with each other, so none is written into once it is made.
type Array struct {
	shape []int
	cells []int64
}

// Of makes a scalar of one number, and a row of more.
func Of(numbers []int64) Array {
	if len(numbers) == 1 {
		return scalar(numbers[0])
	}
	return row(slices.Clone(numbers))
}

// Shape answers a copy: who asks may write into it.
func (a Array) Shape() []int { return slices.Clone(a.shape) }

// Cells answers a copy: who asks may write into it.
func (a Array) Cells() []int64 { return slices.Clone(a.cells) }

// Size is how many cells there are.
func (a Array) Size() int { return len(a.cells) }

func scalar(cell int64) Array { return Array{cells: []int64{cell}} }

func row(cells []int64) Array { return Array{[]int{len(cells)}, cells} }

func (a Array) rank() int { return len(a.shape) }

func (a Array) isScalar() bool { return a.rank() == 0 }

func (a Array) isRow() bool { return a.rank() == 1 }

// atLeastRow is for the functions to which a scalar counts as a row of one.
func (a Array) atLeastRow() Array {
	if a.isScalar() {
		return row(a.cells)
	}
	return a
}

// lastLength is for arrays that are no scalars.
func (a Array) lastLength() int { return a.shape[a.rank()-1] }

func (a Array) has(fits func(cell int64) bool) bool {
	return slices.ContainsFunc(a.cells, fits)
}

func isBelowZero(cell int64) bool { return cell < 0 }

func count(shape []int) int {
	cells := 1
	for _, length := range shape {
		cells *= length
	}
	return cells
}

// fits tells whether an array of this shape is within its bounds. A length is
// held against them too: a 0 beside it would hide it from the cells' count.
func fits(shape []int) bool {
	for _, length := range shape {
		if length > api.MaxCells {
			return false
		}
	}
	return count(shape) <= api.MaxCells
}
