package glyphs_test

import (
	"runtime"
	"slices"
	"strconv"
	"strings"
	"sync"
	"testing"
	"time"

	"glyphs/api"
	"glyphs/glyphs"
)

// toldAll writes replies, and what each cost.
func toldAll(replies []api.Reply) []string {
	var texts []string
	for _, r := range replies {
		texts = append(texts, told(r)+" for "+strconv.Itoa(r.Cost))
	}
	return texts
}

// runAll runs all lines in one call.
func runAll(t *testing.T, d *glyphs.Desk, lines ...string) []api.Reply {
	t.Helper()
	replies := d.Run(lines...)
	if len(replies) != len(lines) {
		t.Fatalf("P5: Run(%q) answers %d replies", lines, len(replies))
	}
	return replies
}

// checkLines runs all lines in one call.
func checkLines(t *testing.T, d *glyphs.Desk, cases []answered) {
	t.Helper()
	var lines []string
	for _, c := range cases {
		lines = append(lines, c.line)
	}
	for i, r := range runAll(t, d, lines...) {
		if got, c := told(r), cases[i]; got != c.want {
			t.Errorf("P5: of Run(%q) line %d makes %s, want %s", lines, i, got, c.want)
		}
	}
}

// kept tells all names of a desk and their values.
func kept(t *testing.T, d *glyphs.Desk) []string {
	t.Helper()
	var texts []string
	for _, name := range d.Names() {
		texts = append(texts, name+" is "+told(runOne(t, d, name)))
	}
	return texts
}

// wrong has a line for each error, on a desk of fuel 40 where the name none has
// no value. Those that could make a name anew must not.
var wrong = []answered{
	{"x is 1" + strings.Repeat(" ", api.MaxLine), "ErrLong 0"}, {"x is 1 ?", "ErrToken 7"}, {"", "ErrSyntax 0"}, {"x is", "ErrSyntax 4"}, {"x is none", "ErrName 5"}, {"x is up 1", "ErrRank 5"}, {"x is 1 2 + 1 2 3", "ErrLength 9"}, {"x is 1 % 0", "ErrDomain 7"}, {"x is 2 at 1 2", "ErrIndex 7"}, {"x is iota 65", "ErrSize 5"}, {"x is iota 40", "ErrFuel 5"},
}

var right = []answered{
	{"x is 1", ":1"}, {"y is x + iota 2", "2:1 2"}, {"x is x + 1", ":2"}, {"x cat y", "3:2 1 2"}, {"y is rev y", "2:2 1"}, {"x * y", "2:4 2"},
}

func TestRunOfNoLineAnswersNothing(t *testing.T) {
	d := newDesk(t, 1000)
	for range 2 {
		checkLines(t, d, nil)
		if replies := d.Run([]string{}...); len(replies) != 0 {
			t.Errorf("P5: Run of an empty list = %v", replies)
		}
		checkNames(t, d)
	}
	checkRun(t, d, []answered{{"x is 3", ":3"}})
	checkLines(t, d, nil)
	checkNames(t, d, "x")
}

func TestRunAnswersEachLineInItsPlace(t *testing.T) {
	for n := range len(right) + 1 {
		checkLines(t, newDesk(t, 40), right[:n])
	}
	var counted []answered
	for i := range api.MaxLines {
		counted = append(counted, answered{strconv.Itoa(i), ":" + strconv.Itoa(i)})
	}
	for n := range api.MaxLines + 1 {
		checkLines(t, newDesk(t, 0), counted[:n])
	}
}

func TestRunOfMaxLines(t *testing.T) {
	d := newDesk(t, 1000)
	checkRun(t, d, []answered{{"x is 0", ":0"}})
	for i, r := range runAll(t, d, slices.Repeat([]string{"x is x + 1"}, api.MaxLines)...) {
		if want := ":" + strconv.Itoa(i+1); told(r) != want {
			t.Errorf("P5: line %d makes %s, want %s", i, told(r), want)
		}
	}
	checkRun(t, d, []answered{{"x", ":50"}})
}

func TestRunOfTooManyLinesAnswersNothingAndChangesNothing(t *testing.T) {
	d := newDesk(t, 1000)
	checkRun(t, d, []answered{{"x is 3", ":3"}})
	for _, n := range []int{api.MaxLines + 1, api.MaxLines + 2, 2 * api.MaxLines, 10000} {
		for _, line := range []string{"y is 1", "x is 4", "1", "1 % 0", "?", "", strings.Repeat("1", api.MaxLine+1)} {
			if replies := d.Run(slices.Repeat([]string{line}, n)...); len(replies) != 0 {
				t.Errorf("P5: Run of %d lines %q answers %d replies", n, line, len(replies))
			}
		}
	}
	checkNames(t, d, "x")
	checkRun(t, d, []answered{{"x", ":3"}})
}

func TestALineWithAnErrorLeavesTheOthersAsTheyAre(t *testing.T) {
	for _, bad := range wrong {
		for place := range len(right) + 1 {
			d := newDesk(t, 40)
			checkLines(t, d, slices.Insert(slices.Clone(right), place, bad))
			checkNames(t, d, "x", "y")
			checkRun(t, d, []answered{{"x", ":2"}, {"y", "2:2 1"}})
		}
	}
}

func TestManyLinesWithErrors(t *testing.T) {
	d := newDesk(t, 40)
	checkLines(t, d, wrong)
	checkNames(t, d)
	var mixed []answered
	for i, c := range right {
		mixed = append(mixed, wrong[i], c, wrong[i+1], wrong[i+2])
	}
	checkLines(t, d, mixed)
	checkNames(t, d, "x", "y")
	checkLines(t, d, wrong)
	checkRun(t, d, []answered{{"x", ":2"}, {"y", "2:2 1"}})
}

func TestALineHasTheNamesOfThoseAheadOfIt(t *testing.T) {
	d := newDesk(t, 1000)
	checkLines(t, d, []answered{
		{"x", "ErrName 0"}, {"x is x", "ErrName 5"}, {"x is 3", ":3"}, {"x", ":3"}, {"y", "ErrName 0"}, {"y is x", ":3"}, {"x is x cat 4", "2:3 4"}, {"x", "2:3 4"}, {"y", ":3"}, {"x is 1 % 0", "ErrDomain 7"}, {"x", "2:3 4"}, {"x is flip 2 2 rho x", "2 2:3 3 4 4"}, {"+/ x", "2:6 8"}, {"z", "ErrName 0"}, {"x is iota 0", "0:"}, {"x", "0:"}, {"x is y", ":3"},
	})
	checkNames(t, d, "x", "y")
	checkLines(t, d, []answered{{"x + y", ":6"}, {"z is 1", ":1"}, {"z", ":1"}})
	checkNames(t, d, "x", "y", "z")
}

func TestTheFuelIsEachLinesOwnInOneRun(t *testing.T) {
	fair, much := answered{"iota 4", "4:0 1 2 3"}, answered{"iota 5", "ErrFuel 0"}
	checkLines(t, newDesk(t, 5), []answered{fair, fair, much, fair, much, much, fair})
	replies := runAll(t, newDesk(t, 5), "iota 4", "7", "- 7", "1 % 0", "iota 4")
	for i, cost := range []int{5, 0, 2, 0, 5} {
		if replies[i].Cost != cost {
			t.Errorf("P6: line %d costs %d, want %d", i, replies[i].Cost, cost)
		}
	}
}

// inPieces runs lines on a desk with all arrays, each call with as many as size
// tells, and answers the replies and what the desk keeps then.
func inPieces(t *testing.T, fuel int, lines []string, size func() int) (replies, values []string) {
	t.Helper()
	d := deskWithArrays(t, fuel)
	for len(lines) > 0 {
		n := min(size(), len(lines))
		replies = append(replies, toldAll(runAll(t, d, lines[:n]...))...)
		lines = lines[n:]
	}
	return replies, kept(t, d)
}

func TestWhatALineMakesDoesNotHangOnHowManyOneRunHad(t *testing.T) {
	w := newWriter(t, 2)
	for _, fuel := range []int{api.MaxFuel, 40, 21} {
		for range 40 {
			lines := []string{"?", "x", "j is r"}
			for len(lines) < api.MaxLines {
				lines = append(lines, w.line())
			}
			replies, values := inPieces(t, fuel, lines, func() int { return 1 })
			sizes := []func() int{
				func() int { return api.MaxLines }, func() int { return 2 }, func() int { return 49 }, func() int { return w.source.Intn(8) },
			}
			for _, size := range sizes {
				gotReplies, gotValues := inPieces(t, fuel, lines, size)
				if !slices.Equal(gotReplies, replies) {
					t.Errorf("P7: %q make %q, one by one %q", lines, gotReplies, replies)
				}
				if !slices.Equal(gotValues, values) {
					t.Errorf("P7: behind %q the desk keeps %q, one by one %q", lines, gotValues, values)
				}
			}
		}
	}
}

func TestRunOfManyLinesAgrees(t *testing.T) {
	w := newWriter(t, 3)
	for range 10 {
		d, slow := deskWithArrays(t, 100), slowDeskWithArrays(100)
		var lines []string
		var want []api.Reply
		for range api.MaxLines {
			lines = append(lines, w.line())
			want = append(want, slow.run(lines[len(lines)-1]))
		}
		if got := toldAll(d.Run(lines...)); !slices.Equal(got, toldAll(want)) {
			t.Errorf("P5: %q make %q, want %q", lines, got, toldAll(want))
		}
	}
}

func TestRunWritesIntoNoListThatIsHandedInAndKeepsNone(t *testing.T) {
	whole := []string{"x is 3", "1 % 0", "y is x + 1", "?", "spare", ""}
	for n := range len(whole) + 1 {
		d := newDesk(t, 1000)
		lines := slices.Clone(whole)
		replies := runAll(t, d, lines[:n]...)
		if !slices.Equal(lines, whole) {
			t.Errorf("P2: behind a Run of %d lines they read %q", n, lines)
		}
		answers, values := toldAll(replies), kept(t, d)
		for i := range lines {
			lines[i] = "x is 77"
		}
		if !slices.Equal(toldAll(replies), answers) || !slices.Equal(kept(t, d), values) {
			t.Errorf("P2: a Run of %d lines hangs on what was handed in", n)
		}
	}
	many := slices.Repeat(whole, api.MaxLines)
	newDesk(t, 1000).Run(many...)
	if !slices.Equal(many, slices.Repeat(whole, api.MaxLines)) {
		t.Errorf("P2: behind a Run of too many lines they read %q", many)
	}
}

func TestTheRepliesOfOneRunShareNothing(t *testing.T) {
	lines := []string{"m", "m", "x is m", "x", "+ x", "ravel m", "r", "0 drop r", "s", "x is r", "x", "5 6", "5 6", "1 % 0", "e"}
	for i := range lines {
		d := deskWithArrays(t, 1000)
		replies := runAll(t, d, lines...)
		want, values := toldAll(replies), kept(t, d)
		overwrite(replies[i])
		got := toldAll(replies)
		got[i] = want[i]
		if !slices.Equal(got, want) {
			t.Errorf("P2: when the reply to %q is written over the others are %q, want %q", lines[i], got, want)
		}
		clear(replies[:cap(replies)])
		if got := kept(t, d); !slices.Equal(got, values) {
			t.Errorf("P2: when the reply to %q is written over the desk keeps %q, want %q", lines[i], got, values)
		}
		if got := toldAll(d.Run(lines...)); !slices.Equal(got, want) {
			t.Errorf("P2: when the replies are written over a second Run answers %q, want %q", got, want)
		}
	}
}

// endsAt waits until no more goroutines are there than before: one that has
// done its last step is counted for a moment yet.
func endsAt(before int) bool {
	for range 1000 {
		if runtime.NumGoroutine() <= before {
			return true
		}
		time.Sleep(time.Millisecond)
	}
	return false
}

func TestNothingRunsOnWhenRunHasAnswered(t *testing.T) {
	var bad, mixed []string
	for i, c := range wrong {
		bad = append(bad, c.line)
		mixed = append(mixed, c.line, right[i%len(right)].line)
	}
	lists := map[string][]string{
		"no line": nil, "one line": {"x is 3"}, "one with an error": {"?"}, "an error at the beginning": {"?", "1", "2"}, "an error in the middle": {"1", "1 % 0", "2"}, "an error at the end": {"1", "2", "none"}, "errors alone": bad, "errors and others": mixed,
		"MaxLines": slices.Repeat([]string{"iota 9"}, api.MaxLines), "MaxLines with errors": slices.Repeat([]string{"iota _1"}, api.MaxLines), "too many": slices.Repeat([]string{"iota 9"}, api.MaxLines+1),
	}
	for what, lines := range lists {
		d := newDesk(t, 40)
		before := runtime.NumGoroutine()
		for range 50 {
			d.Run(lines...)
		}
		if !endsAt(before) {
			t.Errorf("P1: %s: %d run on", what, runtime.NumGoroutine()-before)
		}
	}
}

func TestRunAnswersBehindAllThatItStarted(t *testing.T) {
	// Where one goroutine runs at a time one that has done its last step is
	// gone ahead of the answer, but for the rare one that is halted at it.
	defer runtime.GOMAXPROCS(runtime.GOMAXPROCS(1))
	d := newDesk(t, 40)
	late := 0
	for range 200 {
		before := runtime.NumGoroutine()
		d.Run("x is iota 5", "1 % 0", "?", "+/ x")
		if runtime.NumGoroutine() > before {
			late++
		}
		if !endsAt(before) {
			t.Fatalf("P1: %d run on", runtime.NumGoroutine()-before)
		}
	}
	if late > 20 {
		t.Errorf("P1: something ran on behind %d of 200 answers", late)
	}
}

func TestDesksUsedAtOnceAreApart(t *testing.T) {
	var group sync.WaitGroup
	lines := []string{"?", "x is x + n", "1 % 0", "y is x + iota 3", "none", "+/ y", "x is +"}
	for i := range 16 {
		d := newDesk(t, 40)
		n := int64(i)
		group.Go(func() {
			d.Run("x is 0", "n is "+strconv.Itoa(i))
			for round := range int64(50) {
				sum := 3*n*(round+1) + 3
				replies := d.Run(lines...)
				if len(replies) != len(lines) || !slices.Equal(replies[5].Cells, []int64{sum}) || replies[6].Err != api.ErrSyntax {
					t.Errorf("P2: desk %d, round %d: %q", i, round, toldAll(replies))
				}
			}
			checkNames(t, d, "n", "x", "y")
		})
	}
	group.Wait()
}

func TestTheSameListRunOnDesksAtOnce(t *testing.T) {
	var group sync.WaitGroup
	lines := []string{"x is 2 3 rho iota 6", "x is flip x", "1 % 0", "+/ x"}
	want := toldAll(newDesk(t, 1000).Run(lines...))
	for range 16 {
		d := newDesk(t, 1000)
		group.Go(func() {
			for range 50 {
				if got := toldAll(d.Run(lines...)); !slices.Equal(got, want) {
					t.Errorf("P2: desks at once: %q, want %q", got, want)
				}
			}
		})
	}
	group.Wait()
}
