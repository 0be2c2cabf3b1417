package glyphs_test

import (
	"strings"
	"sync"
	"testing"

	"glyphs/api"
	"glyphs/glyphs"
)

type parsed struct {
	line string
	err  api.Errno
	at   int
}

func checkParse(t *testing.T, cases []parsed) {
	t.Helper()
	for _, c := range cases {
		if err, at := glyphs.Parse(c.line); err != c.err || at != c.at {
			t.Errorf("P3: Parse(%.60q) = %d, %d, want %d, %d", c.line, err, at, c.err, c.at)
		}
	}
}

func checkOracle(t *testing.T, line string) {
	t.Helper()
	err, at := glyphs.Parse(line)
	if wantErr, wantAt := expected(line); err != wantErr || at != wantAt {
		t.Errorf("P3: Parse(%.60q) = %d, %d, want %d, %d", line, err, at, wantErr, wantAt)
	}
}

func TestParseTakesLines(t *testing.T) {
	lines := []string{
		"2 + 3 4", "3 - 2 - 1", "-/ 1 2 3", "+\\ 1 2 3", "1 2 *. 1 2 3", "2 3 rho iota 4",
		"flip 2 3 rho iota 6", "1 rev iota 4", "_3 take 1 2", "3 1 2 at 5 6 7", "7 % _2", "_2 | 7",
		"&/ iota 0", "x is 3", "y + x", "rev rev b", "flip flip b", "(0 - a) rev a rev b",
		"(a take b) cat a drop b", "(up b) at b", "(rho b) rho ravel b", "1 _2_3", "x is(1)",
	}
	for _, line := range lines {
		checkParse(t, []parsed{{line, api.OK, 0}, {"  " + line + "  ", api.OK, 0}})
	}
}

func TestParseBounds(t *testing.T) {
	digits := func(n int) string { return strings.Repeat("0", n-1) + "7" }
	nested := func(n int) string { return strings.Repeat("(", n) + "1" + strings.Repeat(")", n) }
	checkParse(t, []parsed{
		{strings.Repeat("-", api.MaxLine-1) + "1", api.OK, 0},
		{strings.Repeat("-", api.MaxLine) + "1", api.ErrLong, 0},
		{"1" + strings.Repeat(" ", api.MaxLine-1), api.OK, 0},
		{"1" + strings.Repeat(" ", api.MaxLine), api.ErrLong, 0},
		{strings.Repeat("é", api.MaxLine/2), api.ErrToken, 0},
		{strings.Repeat("é", api.MaxLine/2+1), api.ErrLong, 0},
		{strings.Repeat("x", api.MaxName), api.OK, 0},
		{strings.Repeat("x", api.MaxName+1), api.ErrToken, 0},
		{"1 + " + strings.Repeat("x", api.MaxName+1), api.ErrToken, 4},
		{digits(19), api.OK, 0},
		{digits(20), api.ErrToken, 0},
		{"_" + digits(19), api.OK, 0},
		{"_" + digits(20), api.ErrToken, 0},
		{"9223372036854775807", api.OK, 0},
		{"9223372036854775808", api.ErrToken, 0},
		{"_9223372036854775807", api.OK, 0},
		{"_9223372036854775808", api.ErrToken, 0},
		{"1 - _9999999999999999999", api.ErrToken, 4},
		{"18446744073709551617", api.ErrToken, 0},
		{nested(api.MaxDepth), api.OK, 0},
		{nested(api.MaxDepth + 1), api.ErrSyntax, api.MaxDepth},
		{nested(api.MaxDepth) + "+" + nested(api.MaxDepth), api.OK, 0},
		{"x is 2 + " + nested(api.MaxDepth+1), api.ErrSyntax, 9 + api.MaxDepth},
		{strings.Repeat("(", api.MaxDepth), api.ErrSyntax, api.MaxDepth},
		{"(" + strings.Repeat("(1)+", 40) + "1)", api.OK, 0},
	})
}

func TestParseTellsTokens(t *testing.T) {
	checkParse(t, []parsed{
		{"1 _", api.ErrToken, 2}, {"+ / 1", api.ErrToken, 2}, {"Abc", api.ErrToken, 0},
		{"1 + 2 # 3", api.ErrToken, 6}, {"x is\t3", api.ErrToken, 4}, {"1\x00", api.ErrToken, 1},
		{"1 __2", api.ErrToken, 2}, {"1 / 2", api.ErrToken, 2}, {"x.y", api.ErrToken, 1}, {"rho/ 1", api.ErrToken, 3},
		{"iotas", api.ErrToken, 0}, {"ravelx", api.ErrToken, 0}, {"isisi", api.ErrToken, 0},
		{"? ?", api.ErrToken, 0},
	})
}

func TestParseTellsSyntax(t *testing.T) {
	checkParse(t, []parsed{
		{"x at up x is", api.ErrSyntax, 10}, {"2 up 3", api.ErrSyntax, 2}, {"% 3", api.ErrSyntax, 0},
		{"1 x", api.ErrSyntax, 2}, {"x1", api.ErrSyntax, 1}, {"  x  y", api.ErrSyntax, 5}, {"(1)(2)", api.ErrSyntax, 3},
		{"x is y is 3", api.ErrSyntax, 7}, {"x + y is 3", api.ErrSyntax, 6}, {"(x is 3)", api.ErrSyntax, 3},
		{"take is 3", api.ErrSyntax, 0}, {"iota is 3", api.ErrSyntax, 5}, {"is is 3", api.ErrSyntax, 0},
		{"1)", api.ErrSyntax, 1}, {"(1))", api.ErrSyntax, 3}, {"( )", api.ErrSyntax, 2}, {"1 + )", api.ErrSyntax, 4},
		{"1 + % 2", api.ErrSyntax, 4}, {"1 2 3 iota 4", api.ErrSyntax, 6}, {"x +/ y", api.ErrSyntax, 2},
	})
}

func TestParseTellsTheEndOfAShortLine(t *testing.T) {
	for _, line := range []string{"", "   ", "iota", "up up", "x is", "x is ", "1 +", "1 +  ", "(1", "((1) ", "x is (y", "1 2 +."} {
		checkParse(t, []parsed{{line, api.ErrSyntax, len(line)}})
	}
}

func TestTheErrorNamedFirstIsTold(t *testing.T) {
	checkParse(t, []parsed{
		{") ?" + strings.Repeat(" ", api.MaxLine), api.ErrLong, 0},
		{"?" + strings.Repeat(")", api.MaxLine), api.ErrLong, 0},
		{") ?", api.ErrToken, 2}, {"% 3 _", api.ErrToken, 4}, {"((((((((( abcde", api.ErrToken, 10},
		{"1 1 x 9223372036854775808", api.ErrToken, 6},
	})
}

func TestEachFunctionStandsAsItMay(t *testing.T) {
	functions := strings.Fields("iota rho rev up down flip ravel take drop cat in at keep")
	for _, sign := range strings.Fields("+ - * % | & ! = <") {
		functions = append(functions, sign, sign+"/", sign+"\\", sign+".")
	}
	for _, f := range functions {
		for _, line := range []string{f, f + " 1", "1 " + f, "1 " + f + " 2", "x is " + f + " 1", "(" + f + " 1)", "(1) " + f + " x", f + f + " 1", f + " is 1"} {
			checkOracle(t, line)
		}
	}
}

// walk goes through all lines of so many more tokens. A line behind one that
// can't begin a LINE has the same answer, so it goes on from the others only.
func walk(t *testing.T, line string, more int) {
	for _, text := range strings.Fields("1 _2 x is + % +/ +. up rho take ( )") {
		longer := line + " " + text
		checkOracle(t, longer)
		err, at := glyphs.Parse(longer)
		if more > 1 && (err == api.OK || at == len(longer)) {
			walk(t, longer, more-1)
		}
	}
}

func TestParseAgreesOnAllLinesOfFewTokens(t *testing.T) {
	checkOracle(t, "")
	walk(t, "", 4)
	walk(t, strings.Repeat("(", api.MaxDepth-1), 3)
	walk(t, "x is", 3)
}

func TestParseAgreesOnAllLinesOfFewBytes(t *testing.T) {
	for a := range 256 {
		for b := range 256 {
			checkOracle(t, string([]byte{byte(a), byte(b)}))
		}
	}
	const bytes = "09az_+</\\.() ?A`{:"
	for i := range len(bytes) * len(bytes) * len(bytes) {
		n := len(bytes)
		checkOracle(t, string([]byte{bytes[i%n], bytes[i/n%n], bytes[i/n/n]}))
	}
}

func TestParseHangsOnItsLineAlone(t *testing.T) {
	lines := []parsed{{"x is 3", api.OK, 0}, {"x is", api.ErrSyntax, 4}, {"((1)", api.ErrSyntax, 4}, {"1 ?", api.ErrToken, 2}, {"x", api.OK, 0}}
	var group sync.WaitGroup
	for range 8 {
		group.Go(func() {
			for range 50 {
				checkParse(t, lines)
			}
		})
	}
	group.Wait()
}

func FuzzParse(f *testing.F) {
	for _, line := range []string{"", "1 2 + x", "x is (1)", "_", "((((((((1))))))))", "\xff", strings.Repeat("1 ", 120)} {
		f.Add(line)
	}
	f.Fuzz(func(t *testing.T, line string) {
		checkOracle(t, line)
	})
}
