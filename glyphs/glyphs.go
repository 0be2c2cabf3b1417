// Package glyphs: a language of arrays: see DOC.md.
package glyphs

import (
	"glyphs/api"
	"glyphs/syntax"
	"glyphs/token"
)

// Desk is names and their values.
type Desk struct{}

// Parse looks whether a line may be (P3).
func Parse(line string) (api.Errno, int) {
	if len(line) > api.MaxLine {
		return api.ErrLong, 0
	}
	tokens, place, ok := token.Split(line)
	if !ok {
		return api.ErrToken, place
	}
	stray, ok := syntax.Check(tokens)
	if ok {
		return api.OK, 0
	}
	if stray == len(tokens) {
		return api.ErrSyntax, len(line)
	}
	return api.ErrSyntax, tokens[stray].Place
}

// New makes a desk on which a line may cost so much (P4).
func New(fuel int) (*Desk, api.Errno) { return nil, api.OK }

// Run works out lines, one after the other (P5 to P8).
func (d *Desk) Run(lines ...string) []api.Reply { return nil }

// Names tells the names that have values (P4).
func (d *Desk) Names() []string { return nil }
