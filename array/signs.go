package array

import (
	"slices"

	"glyphs/api"
)

func (a Array) plus(b Array) (Array, api.Errno) { return a.pair(b, plus) }

func (a Array) minus(b Array) (Array, api.Errno) { return a.pair(b, minus) }

func (a Array) times(b Array) (Array, api.Errno) { return a.pair(b, times) }

func (a Array) over(b Array) (Array, api.Errno) { return a.pair(b, over) }

func (a Array) rest(b Array) (Array, api.Errno) { return a.pair(b, rest) }

func (a Array) lesser(b Array) (Array, api.Errno) { return a.pair(b, lesser) }

func (a Array) greater(b Array) (Array, api.Errno) { return a.pair(b, greater) }

func (a Array) same(b Array) (Array, api.Errno) { return a.pair(b, same) }

func (a Array) below(b Array) (Array, api.Errno) { return a.pair(b, below) }

// pair goes cell by cell; a scalar goes with each cell of the other array.
func (a Array) pair(b Array, rule func(a, b int64) (int64, api.Errno)) (Array, api.Errno) {
	switch {
	case a.isScalar():
		a = b.filledWith(a.cells[0])
	case b.isScalar():
		b = a.filledWith(b.cells[0])
	case a.rank() != b.rank():
		return Array{}, api.ErrRank
	case !slices.Equal(a.shape, b.shape):
		return Array{}, api.ErrLength
	}
	var cells []int64
	for i := range a.cells {
		cell, err := rule(a.cells[i], b.cells[i])
		if err != api.OK {
			return Array{}, err
		}
		cells = append(cells, cell)
	}
	return Array{a.shape, cells}, api.OK
}

func (a Array) filledWith(cell int64) Array {
	return Array{a.shape, slices.Repeat([]int64{cell}, a.Size())}
}

func plus(a, b int64) (int64, api.Errno) { return a + b, api.OK }

func minus(a, b int64) (int64, api.Errno) { return a - b, api.OK }

func times(a, b int64) (int64, api.Errno) { return a * b, api.OK }

func over(a, b int64) (int64, api.Errno) {
	if b == 0 {
		return 0, api.ErrDomain
	}
	quotient := a / b
	// Go cuts toward 0, which is above the quotient where that is below 0.
	if a%b != 0 && (a < 0) != (b < 0) {
		quotient--
	}
	return quotient, api.OK
}

func rest(a, b int64) (int64, api.Errno) {
	if a == 0 {
		return b, api.OK
	}
	quotient, err := over(b, a)
	return b - a*quotient, err
}

func lesser(a, b int64) (int64, api.Errno) { return min(a, b), api.OK }

func greater(a, b int64) (int64, api.Errno) { return max(a, b), api.OK }

func same(a, b int64) (int64, api.Errno) { return oneIf(a == b), api.OK }

func below(a, b int64) (int64, api.Errno) { return oneIf(a < b), api.OK }

func oneIf(holds bool) int64 {
	if holds {
		return 1
	}
	return 0
}
