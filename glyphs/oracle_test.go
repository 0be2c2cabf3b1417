package glyphs_test

import (
	"math"
	"math/big"
	"regexp"
	"slices"
	"strings"

	"glyphs/api"
)

// The oracle answers what Parse should, slowly and straight from the words of
// P3: tokens by a pattern, the grammar by trying every way through it, and a
// token that can't be there by trying to complete the line up to it.

type piece struct {
	text  string
	place int
}

var (
	tokenPattern = regexp.MustCompile(`^(?:_?[0-9]+|[a-z]+|[-+*%|&!=<][/\\.]?|[()])`)
	aheadOnes    = regexp.MustCompile(`^(?:[-+*|]|[-+*%|&!=<][/\\]|iota|rho|rev|up|down|flip|ravel)$`)
	betweenOnes  = regexp.MustCompile(`^(?:[-+*%|&!=<]\.?|rho|rev|take|drop|cat|in|at|keep)$`)
	numbers      = regexp.MustCompile(`^_?[0-9]+$`)
	letters      = regexp.MustCompile(`^[a-z]+$`)
)

func isFunction(text string) bool {
	return aheadOnes.MatchString(text) || betweenOnes.MatchString(text)
}

func isName(text string) bool {
	return letters.MatchString(text) && !isFunction(text) && text != "is"
}

func isToken(text string) bool {
	if numbers.MatchString(text) {
		digits := strings.TrimPrefix(text, "_")
		worth, _ := new(big.Int).SetString(digits, 10)
		return len(digits) <= 19 && worth.Cmp(big.NewInt(math.MaxInt64)) <= 0
	}
	return !isName(text) || len(text) <= api.MaxName
}

// exprEnds tells each index at which an EXPR that begins at from may end.
func exprEnds(texts []string, from int) []int {
	ends := thingEnds(texts, from)
	for _, end := range slices.Clone(ends) {
		if end < len(texts) && betweenOnes.MatchString(texts[end]) {
			ends = append(ends, exprEnds(texts, end+1)...)
		}
	}
	if from < len(texts) && aheadOnes.MatchString(texts[from]) {
		ends = append(ends, exprEnds(texts, from+1)...)
	}
	return ends
}

func thingEnds(texts []string, from int) []int {
	var ends []int
	for i := from; i < len(texts) && numbers.MatchString(texts[i]); i++ {
		ends = append(ends, i+1)
	}
	if from < len(texts) && isName(texts[from]) {
		ends = append(ends, from+1)
	}
	if from < len(texts) && texts[from] == "(" {
		for _, end := range exprEnds(texts, from+1) {
			if end < len(texts) && texts[end] == ")" {
				ends = append(ends, end+1)
			}
		}
	}
	return ends
}

func tooDeep(texts []string) bool {
	open := 0
	for _, text := range texts {
		switch text {
		case "(":
			open++
		case ")":
			open--
		}
		if open > api.MaxDepth {
			return true
		}
	}
	return false
}

func isLine(texts []string) bool {
	if tooDeep(texts) {
		return false
	}
	if slices.Contains(exprEnds(texts, 0), len(texts)) {
		return true
	}
	return len(texts) > 2 && isName(texts[0]) && texts[1] == "is" &&
		slices.Contains(exprEnds(texts, 2), len(texts))
}

// beginsLine relies on this: what a LINE lacks at its end is at most a THING
// and then `)`.
func beginsLine(texts []string) bool {
	for _, rest := range [][]string{nil, {"1"}} {
		whole := append(slices.Clone(texts), rest...)
		for range api.MaxDepth + 1 {
			if isLine(whole) {
				return true
			}
			whole = append(whole, ")")
		}
	}
	return false
}

func pieces(line string) ([]piece, int, bool) {
	var found []piece
	for place := 0; place < len(line); {
		if line[place] == ' ' {
			place++
			continue
		}
		text := tokenPattern.FindString(line[place:])
		if text == "" || !isToken(text) {
			return nil, place, false
		}
		found = append(found, piece{text, place})
		place += len(text)
	}
	return found, 0, true
}

func expected(line string) (api.Errno, int) {
	if len(line) > api.MaxLine {
		return api.ErrLong, 0
	}
	found, place, ok := pieces(line)
	if !ok {
		return api.ErrToken, place
	}
	var texts []string
	for _, p := range found {
		texts = append(texts, p.text)
		if !beginsLine(texts) {
			return api.ErrSyntax, p.place
		}
	}
	if !isLine(texts) {
		return api.ErrSyntax, len(line)
	}
	return api.OK, 0
}
