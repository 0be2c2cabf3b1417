package array

import (
	"math"

	"glyphs/api"
)

// One is a function of one array.
type One func(b Array) (Array, api.Errno)

// Two is a function of two arrays.
type Two func(a, b Array) (Array, api.Errno)

// sign is what a SIGN makes of two arrays; none is what it makes of no cells.
type sign struct {
	two  Two
	none int64
}

// FindOne answers what a function with no THING ahead of it does.
func FindOne(text string) One {
	form := formsOfOne()[text[1:]]
	if form == nil {
		return ones()[text]
	}
	s := signs()[text[:1]]
	return func(b Array) (Array, api.Errno) { return form(b, s) }
}

// FindTwo answers what a function with a THING ahead of it does.
func FindTwo(text string) Two {
	if s, ok := signs()[text]; ok {
		return s.two
	}
	form := formsOfTwo()[text[1:]]
	if form == nil {
		return twos()[text]
	}
	s := signs()[text[:1]]
	return func(a, b Array) (Array, api.Errno) { return form(a, b, s) }
}

func signs() map[string]sign {
	return map[string]sign{
		"+": {Array.plus, 0},
		"-": {Array.minus, 0},
		"*": {Array.times, 1},
		"%": {Array.over, 1},
		"|": {Array.rest, 0},
		"&": {Array.lesser, math.MaxInt64},
		"!": {Array.greater, math.MinInt64},
		"=": {Array.same, 1},
		"<": {Array.below, 0},
	}
}

// formsOfOne has what stands close behind a SIGN that works on one array.
func formsOfOne() map[string]func(b Array, s sign) (Array, api.Errno) {
	return map[string]func(b Array, s sign) (Array, api.Errno){
		"/":  Array.fold,
		"\\": Array.scan,
	}
}

// formsOfTwo has what stands close behind a SIGN that works on two.
func formsOfTwo() map[string]func(a, b Array, s sign) (Array, api.Errno) {
	return map[string]func(a, b Array, s sign) (Array, api.Errno){
		".": Array.outer,
	}
}

func ones() map[string]One {
	return map[string]One{
		"+":     Array.itself,
		"-":     Array.negated,
		"*":     Array.direction,
		"|":     Array.magnitude,
		"iota":  Array.upTo,
		"rho":   Array.lengths,
		"ravel": Array.ravel,
		"rev":   Array.turnRound,
		"up":    Array.leastFirst,
		"down":  Array.greatestFirst,
		"flip":  Array.flip,
	}
}

func twos() map[string]Two {
	return map[string]Two{
		"rho":  Array.reshape,
		"rev":  Array.turnOn,
		"take": Array.take,
		"drop": Array.drop,
		"cat":  Array.cat,
		"in":   Array.in,
		"at":   Array.at,
		"keep": Array.keep,
	}
}
