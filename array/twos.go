package array

import (
	"slices"

	"glyphs/api"
)

// reshape is `rho`.
func (a Array) reshape(b Array) (Array, api.Errno) {
	if a.rank() > 1 || a.Size() > api.MaxRank {
		return Array{}, api.ErrRank
	}
	if a.has(isBelowZero) {
		return Array{}, api.ErrDomain
	}
	var shape []int
	for _, cell := range a.cells {
		// Cut to what is just too long, since an int may be narrower than a cell.
		shape = append(shape, int(min(cell, api.MaxCells+1)))
	}
	if !fits(shape) {
		return Array{}, api.ErrSize
	}
	if b.Size() == 0 && count(shape) > 0 {
		return Array{}, api.ErrLength
	}
	cells := make([]int64, count(shape))
	for i := range cells {
		cells[i] = b.cells[i%b.Size()]
	}
	return Array{shape, cells}, api.OK
}

// turnOn is `rev`.
func (a Array) turnOn(b Array) (Array, api.Errno) {
	if !a.isScalar() {
		return Array{}, api.ErrRank
	}
	if b.isScalar() {
		return b, api.OK
	}
	var cells []int64
	for line := range slices.Chunk(b.cells, max(b.lastLength(), 1)) {
		// The rest is taken first: i + A must not go round at the greatest number.
		start, _ := rest(int64(len(line)), a.cells[0])
		cells = slices.Concat(cells, line[start:], line[:start])
	}
	return Array{b.shape, cells}, api.OK
}

func (a Array) take(b Array) (Array, api.Errno) {
	b = b.atLeastRow()
	if !a.isScalar() || !b.isRow() {
		return Array{}, api.ErrRank
	}
	wanted := a.cells[0]
	switch {
	case wanted > api.MaxCells || wanted < -api.MaxCells:
		return Array{}, api.ErrSize
	case wanted >= 0:
		cells := make([]int64, wanted)
		copy(cells, b.cells)
		return row(cells), api.OK
	}
	cells := make([]int64, -wanted)
	there := min(len(cells), b.Size())
	copy(cells[len(cells)-there:], b.cells[b.Size()-there:])
	return row(cells), api.OK
}

func (a Array) drop(b Array) (Array, api.Errno) {
	b = b.atLeastRow()
	if !a.isScalar() || !b.isRow() {
		return Array{}, api.ErrRank
	}
	size := int64(b.Size())
	if a.cells[0] >= 0 {
		return row(b.cells[min(a.cells[0], size):]), api.OK
	}
	return row(b.cells[:size+max(a.cells[0], -size)]), api.OK
}

func (a Array) cat(b Array) (Array, api.Errno) {
	a, b = a.atLeastRow(), b.atLeastRow()
	last := a.rank() - 1
	if a.rank() != b.rank() {
		return Array{}, api.ErrRank
	}
	if !slices.Equal(a.shape[:last], b.shape[:last]) {
		return Array{}, api.ErrLength
	}
	shape := slices.Clone(a.shape)
	shape[last] += b.lastLength()
	if !fits(shape) {
		return Array{}, api.ErrSize
	}
	var cells []int64
	for i := range count(shape[:last]) {
		cells = slices.Concat(cells, a.line(i), b.line(i))
	}
	return Array{shape, cells}, api.OK
}

// line answers the cells that differ in their last index alone.
func (a Array) line(i int) []int64 {
	length := a.lastLength()
	return a.cells[i*length : (i+1)*length]
}

func (a Array) in(b Array) (Array, api.Errno) {
	return a.each(func(cell int64) int64 { return oneIf(slices.Contains(b.cells, cell)) }), api.OK
}

func (a Array) at(b Array) (Array, api.Errno) {
	if !b.isRow() {
		return Array{}, api.ErrRank
	}
	size := int64(b.Size())
	if a.has(func(place int64) bool { return place < 0 || place >= size }) {
		return Array{}, api.ErrIndex
	}
	return a.each(func(place int64) int64 { return b.cells[place] }), api.OK
}

func (a Array) keep(b Array) (Array, api.Errno) {
	switch {
	case !b.isRow() || a.rank() > 1:
		return Array{}, api.ErrRank
	case a.isRow() && a.Size() != b.Size():
		return Array{}, api.ErrLength
	case a.has(isBelowZero):
		return Array{}, api.ErrDomain
	case a.isScalar():
		a = b.filledWith(a.cells[0])
	}
	var cells []int64
	for i, times := range a.cells {
		if times > int64(api.MaxCells-len(cells)) {
			return Array{}, api.ErrSize
		}
		cells = append(cells, slices.Repeat(b.cells[i:i+1], int(times))...)
	}
	return row(cells), api.OK
}
