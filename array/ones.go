package array

import (
	"cmp"
	"slices"

	"glyphs/api"
)

func (b Array) itself() (Array, api.Errno) { return b, api.OK }

func (b Array) negated() (Array, api.Errno) {
	return b.each(func(cell int64) int64 { return -cell }), api.OK
}

func (b Array) direction() (Array, api.Errno) {
	return b.each(func(cell int64) int64 { return int64(cmp.Compare(cell, 0)) }), api.OK
}

func (b Array) magnitude() (Array, api.Errno) {
	return b.each(func(cell int64) int64 { return max(cell, -cell) }), api.OK
}

func (b Array) each(rule func(cell int64) int64) Array {
	var cells []int64
	for _, cell := range b.cells {
		cells = append(cells, rule(cell))
	}
	return Array{b.shape, cells}
}

// upTo is `iota`.
func (b Array) upTo() (Array, api.Errno) {
	switch {
	case !b.isScalar():
		return Array{}, api.ErrRank
	case b.cells[0] < 0:
		return Array{}, api.ErrDomain
	case b.cells[0] > api.MaxCells:
		return Array{}, api.ErrSize
	}
	return row(places(int(b.cells[0]))), api.OK
}

// lengths is `rho`.
func (b Array) lengths() (Array, api.Errno) {
	var cells []int64
	for _, length := range b.shape {
		cells = append(cells, int64(length))
	}
	return row(cells), api.OK
}

func (b Array) ravel() (Array, api.Errno) { return row(b.cells), api.OK }

// turnRound is `rev`.
func (b Array) turnRound() (Array, api.Errno) {
	if b.isScalar() {
		return b, api.OK
	}
	cells := slices.Clone(b.cells)
	for line := range slices.Chunk(cells, max(b.lastLength(), 1)) {
		slices.Reverse(line)
	}
	return Array{b.shape, cells}, api.OK
}

// leastFirst is `up`.
func (b Array) leastFirst() (Array, api.Errno) {
	return b.order(cmp.Compare[int64])
}

// greatestFirst is `down`. It is not `up` read from the end: the same cells
// stay in their order.
func (b Array) greatestFirst() (Array, api.Errno) {
	return b.order(func(x, y int64) int { return cmp.Compare(y, x) })
}

func (b Array) order(compare func(x, y int64) int) (Array, api.Errno) {
	if !b.isRow() {
		return Array{}, api.ErrRank
	}
	ordered := places(b.Size())
	slices.SortStableFunc(ordered, func(i, j int64) int {
		return compare(b.cells[i], b.cells[j])
	})
	return row(ordered), api.OK
}

func (b Array) flip() (Array, api.Errno) {
	shape := slices.Clone(b.shape)
	slices.Reverse(shape)
	var cells []int64
	for i := range b.Size() {
		cells = append(cells, b.cells[b.flippedPlace(i)])
	}
	return Array{shape, cells}, api.OK
}

// flippedPlace tells where the cell stands that flip moves to place. The index
// that runs first there is the first one here, so its digits come in our order.
func (b Array) flippedPlace(place int) int {
	source := 0
	for _, length := range b.shape {
		source = source*length + place%length
		place /= length
	}
	return source
}

func places(n int) []int64 {
	cells := make([]int64, n)
	for i := range cells {
		cells[i] = int64(i)
	}
	return cells
}
