// Package glyphs: a language of arrays: see DOC.md.
package glyphs

import (
	"maps"
	"slices"
	"strings"

	"glyphs/api"
	"glyphs/array"
	"glyphs/evaluate"
	"glyphs/syntax"
	"glyphs/token"
)

// Desk is names and their values.
type Desk struct {
	fuel   int
	values map[string]array.Array
}

// Parse looks whether a line may be (P3).
func Parse(line string) (api.Errno, int) {
	_, err, at := read(line)
	return err, at
}

// New makes a desk on which a line may cost so much (P4).
func New(fuel int) (*Desk, api.Errno) {
	if fuel < 0 || fuel > api.MaxFuel {
		return nil, api.ErrRange
	}
	return &Desk{fuel: fuel}, api.OK
}

// Run works out lines, one after the other (P5 to P8).
func (d *Desk) Run(lines ...string) []api.Reply {
	// There is no desk where New had an error.
	if d == nil || len(lines) > api.MaxLines {
		return nil
	}
	var replies []api.Reply
	for _, line := range lines {
		replies = append(replies, d.reply(line))
	}
	return replies
}

// Names tells the names that have values (P4).
func (d *Desk) Names() []string {
	if d == nil {
		return nil
	}
	return slices.Sorted(maps.Keys(d.values))
}

func (d *Desk) reply(text string) api.Reply {
	line, err, at := read(text)
	if err != api.OK {
		return api.Reply{Err: err, At: at}
	}
	made, cost, fault := evaluate.Expr(line.Expr, d.values, d.fuel)
	if fault.Err != api.OK {
		return api.Reply{Err: fault.Err, At: fault.At}
	}
	if line.Name != "" {
		d.keep(line.Name, made)
	}
	return api.Reply{Shape: made.Shape(), Cells: made.Cells(), Cost: cost}
}

func (d *Desk) keep(name string, value array.Array) {
	if d.values == nil {
		d.values = make(map[string]array.Array)
	}
	// A copy of the name, or the whole line it stands in would be kept with it.
	d.values[strings.Clone(name)] = value
}

func read(line string) (syntax.Line, api.Errno, int) {
	if len(line) > api.MaxLine {
		return syntax.Line{}, api.ErrLong, 0
	}
	tokens, place, ok := token.Split(line)
	if !ok {
		return syntax.Line{}, api.ErrToken, place
	}
	said, stray, ok := syntax.Read(tokens)
	switch {
	case ok:
		return said, api.OK, 0
	case stray == len(tokens):
		return syntax.Line{}, api.ErrSyntax, len(line)
	}
	return syntax.Line{}, api.ErrSyntax, tokens[stray].Place
}
