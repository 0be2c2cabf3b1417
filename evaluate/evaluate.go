// Package evaluate works out what a line says.
package evaluate

import (
	"glyphs/api"
	"glyphs/array"
	"glyphs/syntax"
	"glyphs/token"
)

// Fault is an error and its place; its Err is OK if there is none.
type Fault struct {
	Err api.Errno
	At  int
}

type worker struct {
	values map[string]array.Array
	fuel   int
	cost   int
}

// Expr answers the array that an EXPR makes and what it cost. The values are
// read only.
func Expr(expr *syntax.Expr, values map[string]array.Array, fuel int) (array.Array, int, Fault) {
	w := worker{values: values, fuel: fuel}
	made, fault := w.expr(expr)
	if fault.Err != api.OK {
		return array.Array{}, 0, fault
	}
	return made, w.cost, Fault{}
}

func (w *worker) expr(e *syntax.Expr) (array.Array, Fault) {
	switch e.Head.Kind {
	case token.Num:
		return array.Of(e.Numbers), Fault{}
	case token.Name:
		return w.value(e.Head)
	}
	right, fault := w.expr(e.Right)
	if fault.Err != api.OK {
		return array.Array{}, fault
	}
	if e.Left == nil {
		made, err := array.FindOne(e.Head.Text)(right)
		return w.pay(made, err, e.Head.Place)
	}
	left, fault := w.expr(e.Left)
	if fault.Err != api.OK {
		return array.Array{}, fault
	}
	made, err := array.FindTwo(e.Head.Text)(left, right)
	return w.pay(made, err, e.Head.Place)
}

func (w *worker) value(name token.Token) (array.Array, Fault) {
	value, ok := w.values[name.Text]
	if !ok {
		return array.Array{}, Fault{api.ErrName, name.Place}
	}
	return value, Fault{}
}

// pay counts what a function costs. Its own error is told ahead of the fuel's:
// one that made no array costs nothing.
func (w *worker) pay(made array.Array, err api.Errno, place int) (array.Array, Fault) {
	if err != api.OK {
		return array.Array{}, Fault{err, place}
	}
	w.cost += 1 + made.Size()
	if w.cost > w.fuel {
		return array.Array{}, Fault{api.ErrFuel, place}
	}
	return made, Fault{}
}
