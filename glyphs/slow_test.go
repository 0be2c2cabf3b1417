package glyphs_test

import (
	"math/big"
	"slices"
	"strings"

	"glyphs/api"
)

// The slow desk answers what Run should, straight from the words of P6: an
// array is a value at each index, numbers are of any size and cut to 64 bits
// at the end, and an error is a panic that the line's end catches.

type slowArray struct {
	shape []int
	cells map[[api.MaxRank]int]*big.Int
}

type slowFault struct {
	err api.Errno
	at  int
}

func number(n int64) *big.Int { return big.NewInt(n) }

var round = new(big.Int).Lsh(number(1), 64)

func goRound(n *big.Int) *big.Int {
	n = new(big.Int).Mod(n, round)
	if n.BitLen() == 64 {
		n.Sub(n, round)
	}
	return n
}

// indexes tells all of a shape, the last one running first.
func indexes(shape []int) [][]int {
	all := [][]int{nil}
	for _, length := range shape {
		var longer [][]int
		for _, index := range all {
			for i := range length {
				longer = append(longer, append(slices.Clone(index), i))
			}
		}
		all = longer
	}
	return all
}

func key(index []int) [api.MaxRank]int {
	var k [api.MaxRank]int
	copy(k[:], index)
	return k
}

func slowMake(shape []int, cell func(index []int) *big.Int) slowArray {
	made := slowArray{slices.Clone(shape), make(map[[api.MaxRank]int]*big.Int)}
	for _, index := range indexes(shape) {
		made.cells[key(index)] = goRound(cell(index))
	}
	return made
}

func slowRow(cells []*big.Int) slowArray {
	return slowMake([]int{len(cells)}, func(i []int) *big.Int { return cells[i[0]] })
}

func (a slowArray) at(index []int) *big.Int { return a.cells[key(index)] }

func (a slowArray) rank() int { return len(a.shape) }

// list tells the cells in order.
func (a slowArray) list() []*big.Int {
	var cells []*big.Int
	for _, index := range indexes(a.shape) {
		cells = append(cells, a.at(index))
	}
	return cells
}

func (a slowArray) asRow() slowArray {
	if a.rank() == 0 {
		return slowRow(a.list())
	}
	return a
}

func refuse(holds bool, err api.Errno) {
	if holds {
		panic(err)
	}
}

func refuseSize(lengths ...*big.Int) {
	cells := number(1)
	for _, length := range lengths {
		refuse(length.Cmp(number(api.MaxCells)) > 0, api.ErrSize)
		cells.Mul(cells, length)
	}
	refuse(cells.Cmp(number(api.MaxCells)) > 0, api.ErrSize)
}

func bigs(list []int) []*big.Int {
	var all []*big.Int
	for _, n := range list {
		all = append(all, number(int64(n)))
	}
	return all
}

func anyBelowZero(cells []*big.Int) bool {
	return slices.ContainsFunc(cells, func(c *big.Int) bool { return c.Sign() < 0 })
}

func slowFloor(a, b *big.Int) *big.Int {
	refuse(b.Sign() == 0, api.ErrDomain)
	// Turned so that b is above 0, where Euclid's quotient is the floor.
	if b.Sign() < 0 {
		a, b = new(big.Int).Neg(a), new(big.Int).Neg(b)
	}
	return new(big.Int).Div(a, b)
}

func slowCell(sign byte, a, b *big.Int) *big.Int {
	worth := func(holds bool) *big.Int {
		if holds {
			return number(1)
		}
		return number(0)
	}
	switch sign {
	case '+':
		return new(big.Int).Add(a, b)
	case '-':
		return new(big.Int).Sub(a, b)
	case '*':
		return new(big.Int).Mul(a, b)
	case '%':
		return slowFloor(a, b)
	case '|':
		if a.Sign() == 0 {
			return b
		}
		return new(big.Int).Sub(b, new(big.Int).Mul(a, slowFloor(b, a)))
	case '&', '!':
		if (a.Cmp(b) < 0) == (sign == '&') {
			return a
		}
		return b
	case '=':
		return worth(a.Cmp(b) == 0)
	}
	return worth(a.Cmp(b) < 0)
}

func slowFold(sign byte, cells []*big.Int) *big.Int {
	switch {
	case len(cells) > 1:
		return goRound(slowCell(sign, cells[0], slowFold(sign, cells[1:])))
	case len(cells) == 1:
		return cells[0]
	}
	switch sign {
	case '*', '%', '=':
		return number(1)
	case '&':
		return number(1<<63 - 1)
	case '!':
		return number(-1 << 63)
	}
	return number(0)
}

// upTo tells the cells of b whose last index is below n, the others as given.
func (b slowArray) upTo(ahead []int, n int) []*big.Int {
	var cells []*big.Int
	for i := range n {
		cells = append(cells, b.at(append(slices.Clone(ahead), i)))
	}
	return cells
}

func slowSignOfOne(text string, b slowArray) slowArray {
	switch {
	case len(text) == 1:
		return slowMake(b.shape, func(i []int) *big.Int {
			switch text {
			case "-":
				return new(big.Int).Neg(b.at(i))
			case "*":
				return number(int64(b.at(i).Sign()))
			case "|":
				return new(big.Int).Abs(b.at(i))
			}
			return b.at(i)
		})
	case b.rank() == 0:
		return b
	}
	last := b.rank() - 1
	if text[1] == '\\' {
		return slowMake(b.shape, func(i []int) *big.Int { return slowFold(text[0], b.upTo(i[:last], i[last]+1)) })
	}
	refuseSize(bigs(b.shape[:last])...)
	return slowMake(b.shape[:last], func(i []int) *big.Int { return slowFold(text[0], b.upTo(i, b.shape[last])) })
}

func slowOne(text string, b slowArray) slowArray {
	switch text {
	case "iota":
		refuse(b.rank() > 0, api.ErrRank)
		n := b.list()[0]
		refuse(n.Sign() < 0, api.ErrDomain)
		refuseSize(n)
		return slowMake([]int{int(n.Int64())}, func(i []int) *big.Int { return number(int64(i[0])) })
	case "rho":
		return slowRow(bigs(b.shape))
	case "ravel":
		return slowRow(b.list())
	case "rev":
		return slowMake(b.shape, func(i []int) *big.Int { return b.at(turned(b.shape, i)) })
	case "up", "down":
		return slowOrder(b, text == "down")
	case "flip":
		return slowMake(backward(b.shape), func(i []int) *big.Int { return b.at(backward(i)) })
	}
	return slowSignOfOne(text, b)
}

func turned(shape, index []int) []int {
	index = slices.Clone(index)
	if last := len(index) - 1; last >= 0 {
		index[last] = shape[last] - 1 - index[last]
	}
	return index
}

func backward(list []int) []int {
	list = slices.Clone(list)
	slices.Reverse(list)
	return list
}

// slowOrder picks the first of the least cells that are left, again and again.
func slowOrder(b slowArray, greatest bool) slowArray {
	refuse(b.rank() != 1, api.ErrRank)
	cells := b.list()
	var places []*big.Int
	for range cells {
		best := -1
		for i, cell := range cells {
			if cell != nil && (best < 0 || greatest && cell.Cmp(cells[best]) > 0 || !greatest && cell.Cmp(cells[best]) < 0) {
				best = i
			}
		}
		cells[best] = nil
		places = append(places, number(int64(best)))
	}
	return slowRow(places)
}

func slowSignOfTwo(text string, a, b slowArray) slowArray {
	if len(text) > 1 {
		refuse(a.rank()+b.rank() > api.MaxRank, api.ErrRank)
		shape := slices.Concat(a.shape, b.shape)
		refuseSize(bigs(shape)...)
		return slowMake(shape, func(i []int) *big.Int { return slowCell(text[0], a.at(i[:a.rank()]), b.at(i[a.rank():])) })
	}
	if a.rank() == 0 {
		return slowMake(b.shape, func(i []int) *big.Int { return slowCell(text[0], a.at(nil), b.at(i)) })
	}
	if b.rank() == 0 {
		return slowMake(a.shape, func(i []int) *big.Int { return slowCell(text[0], a.at(i), b.at(nil)) })
	}
	refuse(a.rank() != b.rank(), api.ErrRank)
	refuse(!slices.Equal(a.shape, b.shape), api.ErrLength)
	return slowMake(a.shape, func(i []int) *big.Int { return slowCell(text[0], a.at(i), b.at(i)) })
}

func slowTwo(text string, a, b slowArray) slowArray {
	switch text {
	case "rho":
		return slowReshape(a, b)
	case "rev":
		return slowTurn(a, b)
	case "take", "drop":
		return slowPart(text, a, b)
	case "cat":
		return slowCat(a.asRow(), b.asRow())
	case "in":
		return slowMake(a.shape, func(i []int) *big.Int {
			for _, cell := range b.list() {
				if cell.Cmp(a.at(i)) == 0 {
					return number(1)
				}
			}
			return number(0)
		})
	case "at":
		refuse(b.rank() != 1, api.ErrRank)
		return slowMake(a.shape, func(i []int) *big.Int {
			refuse(a.at(i).Sign() < 0 || a.at(i).Cmp(number(int64(b.shape[0]))) >= 0, api.ErrIndex)
			return b.at([]int{int(a.at(i).Int64())})
		})
	case "keep":
		return slowKeep(a, b)
	}
	return slowSignOfTwo(text, a, b)
}

func slowReshape(a, b slowArray) slowArray {
	refuse(a.rank() > 1 || len(a.list()) > api.MaxRank, api.ErrRank)
	refuse(anyBelowZero(a.list()), api.ErrDomain)
	refuseSize(a.list()...)
	var shape []int
	for _, length := range a.list() {
		shape = append(shape, int(length.Int64()))
	}
	from := b.list()
	refuse(len(from) == 0 && len(indexes(shape)) > 0, api.ErrLength)
	next := 0
	return slowMake(shape, func([]int) *big.Int {
		next++
		return from[(next-1)%len(from)]
	})
}

func slowTurn(a, b slowArray) slowArray {
	refuse(a.rank() > 0, api.ErrRank)
	return slowMake(b.shape, func(i []int) *big.Int {
		if len(i) == 0 {
			return b.at(i)
		}
		last := len(i) - 1
		moved := new(big.Int).Add(number(int64(i[last])), a.at(nil))
		moved.Mod(moved, number(int64(b.shape[last])))
		return b.at(append(slices.Clone(i[:last]), int(moved.Int64())))
	})
}

// slowPart goes from the front: from the back it turns the row ahead and after.
func slowPart(text string, a, b slowArray) slowArray {
	b = b.asRow()
	refuse(a.rank() > 0 || b.rank() != 1, api.ErrRank)
	count := a.at(nil)
	if text == "take" {
		refuseSize(new(big.Int).Abs(count))
	}
	if count.Sign() < 0 {
		positive := slowArray{nil, map[[api.MaxRank]int]*big.Int{{}: new(big.Int).Neg(count)}}
		return slowOne("rev", slowPart(text, positive, slowOne("rev", b)))
	}
	cells := b.list()
	if text == "drop" {
		for i := number(0); i.Cmp(count) < 0 && len(cells) > 0; i.Add(i, number(1)) {
			cells = cells[1:]
		}
		return slowRow(cells)
	}
	return slowMake([]int{int(count.Int64())}, func(i []int) *big.Int {
		if i[0] < len(cells) {
			return cells[i[0]]
		}
		return number(0)
	})
}

func slowCat(a, b slowArray) slowArray {
	last := a.rank() - 1
	refuse(a.rank() != b.rank(), api.ErrRank)
	refuse(!slices.Equal(a.shape[:last], b.shape[:last]), api.ErrLength)
	shape := append(slices.Clone(a.shape[:last]), a.shape[last]+b.shape[last])
	refuseSize(bigs(shape)...)
	return slowMake(shape, func(i []int) *big.Int {
		if i[last] < a.shape[last] {
			return a.at(i)
		}
		return b.at(append(slices.Clone(i[:last]), i[last]-a.shape[last]))
	})
}

func slowKeep(a, b slowArray) slowArray {
	refuse(b.rank() != 1 || a.rank() > 1, api.ErrRank)
	refuse(a.rank() == 1 && a.shape[0] != b.shape[0], api.ErrLength)
	refuse(anyBelowZero(a.list()), api.ErrDomain)
	counts := slowMake(b.shape, func(i []int) *big.Int {
		if a.rank() == 0 {
			return a.at(nil)
		}
		return a.at(i)
	}).list()
	total := number(0)
	for _, count := range counts {
		total.Add(total, count)
	}
	refuseSize(total)
	var cells []*big.Int
	for i, count := range counts {
		for range count.Int64() {
			cells = append(cells, b.list()[i])
		}
	}
	return slowRow(cells)
}

type slowDesk struct {
	fuel   int
	values map[string]slowArray
	cost   int
}

// run relies on expected for the line's syntax.
func (d *slowDesk) run(line string) (reply api.Reply) {
	if err, at := expected(line); err != api.OK {
		return api.Reply{Err: err, At: at}
	}
	defer func() {
		if fault, ok := recover().(slowFault); ok {
			reply = api.Reply{Err: fault.err, At: fault.at}
		}
	}()
	d.cost = 0
	found, _, _ := pieces(line)
	name := ""
	if len(found) > 1 && found[1].text == "is" {
		name, found = found[0].text, found[2:]
	}
	made := d.work(found)
	if name != "" {
		d.values[name] = made
	}
	reply = api.Reply{Shape: made.shape, Cost: d.cost}
	for _, cell := range made.list() {
		reply.Cells = append(reply.Cells, cell.Int64())
	}
	return reply
}

func (d *slowDesk) work(found []piece) slowArray {
	thing := thingLength(found)
	if thing == len(found) {
		return d.thing(found)
	}
	function := found[thing]
	b := d.work(found[thing+1:])
	if thing == 0 {
		return d.pay(function, func() slowArray { return slowOne(function.text, b) })
	}
	a := d.thing(found[:thing])
	return d.pay(function, func() slowArray { return slowTwo(function.text, a, b) })
}

// thingLength tells how many pieces the THING has that stands first, if any.
func thingLength(found []piece) int {
	if isName(found[0].text) {
		return 1
	}
	open := 0
	for i, p := range found {
		switch {
		case p.text == "(":
			open++
		case p.text == ")":
			open--
			if open == 0 {
				return i + 1
			}
		case open == 0 && !numbers.MatchString(p.text):
			return i
		}
	}
	return len(found)
}

func (d *slowDesk) thing(found []piece) slowArray {
	if found[0].text == "(" {
		return d.work(found[1 : len(found)-1])
	}
	if isName(found[0].text) {
		value, ok := d.values[found[0].text]
		if !ok {
			panic(slowFault{api.ErrName, found[0].place})
		}
		return value
	}
	var cells []*big.Int
	for _, p := range found {
		cell, _ := new(big.Int).SetString(strings.Replace(p.text, "_", "-", 1), 10)
		cells = append(cells, cell)
	}
	if len(cells) == 1 {
		return slowMake(nil, func([]int) *big.Int { return cells[0] })
	}
	return slowRow(cells)
}

func (d *slowDesk) pay(function piece, work func() slowArray) slowArray {
	defer func() {
		switch fault := recover().(type) {
		case nil:
		case api.Errno:
			panic(slowFault{fault, function.place})
		default:
			panic(fault)
		}
	}()
	made := work()
	d.cost += 1 + len(made.cells)
	if d.cost > d.fuel {
		panic(slowFault{api.ErrFuel, function.place})
	}
	return made
}
