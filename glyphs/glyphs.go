// Package glyphs: a language of arrays: see DOC.md.
package glyphs

import (
	"maps"
	"slices"
	"strings"

	"glyphs/api"
	"glyphs/array"
	"glyphs/evaluate"
	"glyphs/syntax"
	"glyphs/token"
)

// Desk is names and their values.
type Desk struct {
	fuel   int
	values map[string]array.Array
}

// reading is what a line says, or the error that it has and its place.
type reading struct {
	line syntax.Line
	err  api.Errno
	at   int
}

// Parse looks whether a line may be (P3).
func Parse(line string) (api.Errno, int) {
	said := read(line)
	return said.err, said.at
}

// New makes a desk on which a line may cost so much (P4).
func New(fuel int) (*Desk, api.Errno) {
	if fuel < 0 || fuel > api.MaxFuel {
		return nil, api.ErrRange
	}
	return &Desk{fuel: fuel}, api.OK
}

// Run works out lines, one after the other (P5 to P8).
func (d *Desk) Run(lines ...string) []api.Reply {
	// There is no desk where New had an error.
	if d == nil || len(lines) > api.MaxLines {
		return nil
	}
	readings := make(chan reading)
	go readAhead(lines, readings)
	replies := make([]api.Reply, 0, len(lines))
	for said := range readings {
		replies = append(replies, d.reply(said))
	}
	return replies
}

// Names tells the names that have values (P4).
func (d *Desk) Names() []string {
	if d == nil {
		return nil
	}
	return slices.Sorted(maps.Keys(d.values))
}

// readAhead has no desk: what a line says hangs on its text alone, so that it
// may be read while those ahead of it are still worked out. Closing is the last
// it does, and Run waits for that.
func readAhead(lines []string, readings chan<- reading) {
	for _, line := range lines {
		readings <- read(line)
	}
	close(readings)
}

func (d *Desk) reply(said reading) api.Reply {
	if said.err != api.OK {
		return api.Reply{Err: said.err, At: said.at}
	}
	made, cost, fault := evaluate.Expr(said.line.Expr, d.values, d.fuel)
	if fault.Err != api.OK {
		return api.Reply{Err: fault.Err, At: fault.At}
	}
	if said.line.Name != "" {
		d.keep(said.line.Name, made)
	}
	return api.Reply{Shape: made.Shape(), Cells: made.Cells(), Cost: cost}
}

func (d *Desk) keep(name string, value array.Array) {
	if d.values == nil {
		d.values = make(map[string]array.Array)
	}
	// A copy of the name, or the whole line it stands in would be kept with it.
	d.values[strings.Clone(name)] = value
}

func read(line string) reading {
	if len(line) > api.MaxLine {
		return reading{err: api.ErrLong}
	}
	tokens, place, ok := token.Split(line)
	if !ok {
		return reading{err: api.ErrToken, at: place}
	}
	said, stray, ok := syntax.Read(tokens)
	switch {
	case ok:
		return reading{line: said}
	case stray == len(tokens):
		return reading{err: api.ErrSyntax, at: len(line)}
	}
	return reading{err: api.ErrSyntax, at: tokens[stray].Place}
}
