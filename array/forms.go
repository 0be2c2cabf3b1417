package array

import (
	"slices"

	"glyphs/api"
)

// fold lets the last index go: SIGN`/`.
func (b Array) fold(s sign) (Array, api.Errno) {
	if b.isScalar() {
		return b, api.OK
	}
	left := b.shape[:b.rank()-1]
	// Behind a last length of 0 there may be more to fill than there was.
	if !fits(left) {
		return Array{}, api.ErrSize
	}
	columns := b.columns()
	if len(columns) == 0 {
		return Array{left, slices.Repeat([]int64{s.none}, count(left))}, api.OK
	}
	return s.chain(columns)
}

// scan answers the folds of all beginnings: SIGN`\`.
func (b Array) scan(s sign) (Array, api.Errno) {
	if b.isScalar() {
		return b, api.OK
	}
	cells := make([]int64, b.Size())
	columns := b.columns()
	for i := range columns {
		made, err := s.chain(columns[:i+1])
		if err != api.OK {
			return Array{}, err
		}
		for j, cell := range made.cells {
			cells[j*len(columns)+i] = cell
		}
	}
	return Array{b.shape, cells}, api.OK
}

// outer makes each cell of a with each of b: SIGN`.`.
func (a Array) outer(b Array, s sign) (Array, api.Errno) {
	if a.rank()+b.rank() > api.MaxRank {
		return Array{}, api.ErrRank
	}
	shape := slices.Concat(a.shape, b.shape)
	if !fits(shape) {
		return Array{}, api.ErrSize
	}
	var cells []int64
	for _, cell := range a.cells {
		made, err := s.two(scalar(cell), b)
		if err != api.OK {
			return Array{}, err
		}
		cells = append(cells, made.cells...)
	}
	return Array{shape, cells}, api.OK
}

// chain makes a f (b f (.. f z)) of one column or more.
func (s sign) chain(columns []Array) (Array, api.Errno) {
	last := len(columns) - 1
	made := columns[last]
	for i := last - 1; i >= 0; i-- {
		var err api.Errno
		if made, err = s.two(columns[i], made); err != api.OK {
			return Array{}, err
		}
	}
	return made, api.OK
}

// columns answers an array for each last index, of the shape ahead of it.
func (b Array) columns() []Array {
	length := b.lastLength()
	columns := make([]Array, length)
	for i := range columns {
		columns[i].shape = b.shape[:b.rank()-1]
		for j := i; j < b.Size(); j += length {
			columns[i].cells = append(columns[i].cells, b.cells[j])
		}
	}
	return columns
}
