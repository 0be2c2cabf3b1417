package glyphs_test

import (
	"maps"
	"math/rand"
	"strconv"
	"strings"
	"sync"
	"testing"

	"glyphs/api"
	"glyphs/glyphs"
)

// slowArrays is made once, since a slow desk takes its time.
var slowArrays = sync.OnceValue(func() map[string]slowArray {
	d := &slowDesk{fuel: api.MaxFuel, values: make(map[string]slowArray)}
	for _, line := range arrays {
		d.run(line)
	}
	return d.values
})

func slowDeskWithArrays(fuel int) *slowDesk {
	return &slowDesk{fuel: fuel, values: maps.Clone(slowArrays())}
}

func checkAgree(t *testing.T, d *glyphs.Desk, slow *slowDesk, line string) {
	t.Helper()
	got, want := runOne(t, d, line), slow.run(line)
	if told(got) != told(want) || got.Cost != want.Cost {
		t.Errorf("P6: %q with the fuel %d makes %s for %d, want %s for %d", line, slow.fuel, told(got), got.Cost, told(want), want.Cost)
	}
}

func functionsOf(t *testing.T, may func(text string) bool) []string {
	t.Helper()
	texts := strings.Fields("iota rho rev up down flip ravel take drop cat in at keep")
	for _, sign := range allSigns {
		texts = append(texts, sign, sign+"/", sign+"\\", sign+".")
	}
	var functions []string
	for _, text := range texts {
		if may(text) {
			functions = append(functions, text)
		}
	}
	return functions
}

// operands are the names of the arrays, and some numbers at bounds.
func operands() []string {
	texts := strings.Fields("1 _1 2 63 64 65 _64 _65")
	for _, line := range arrays {
		name, _, _ := strings.Cut(line, " ")
		texts = append(texts, name)
	}
	return append(texts, "(0 1)", "(1 _1)", "(2 2)", "(0 0 0)", "(iota 3)", "(2 1 rho 0 2)", "(1 64 rho 1)", "(2 3 1 rho iota 6)")
}

func TestEachFunctionAgreesOnAllOperands(t *testing.T) {
	d, slow := deskWithArrays(t, api.MaxFuel), slowDeskWithArrays(api.MaxFuel)
	for _, b := range operands() {
		for _, f := range functionsOf(t, aheadOnes.MatchString) {
			checkAgree(t, d, slow, f+" "+b)
		}
		for _, f := range functionsOf(t, betweenOnes.MatchString) {
			for _, a := range operands() {
				checkAgree(t, d, slow, a+" "+f+" "+b)
			}
		}
	}
}

// writer makes lines by the grammar, the same ones in every run; room is how
// many functions a line may still have.
type writer struct {
	source  *rand.Rand
	ahead   []string
	between []string
	room    int
}

func newWriter(t *testing.T, seed int64) *writer {
	t.Helper()
	return &writer{
		source:  rand.New(rand.NewSource(seed)),
		ahead:   functionsOf(t, aheadOnes.MatchString),
		between: functionsOf(t, betweenOnes.MatchString),
	}
}

func (w *writer) pick(texts []string) string { return texts[w.source.Intn(len(texts))] }

func (w *writer) number() string {
	switch w.source.Intn(12) {
	case 0:
		return w.pick([]string{"9223372036854775807", "_9223372036854775807", "64", "65", "_64", "32"})
	case 1:
		return strconv.Itoa(w.source.Intn(20))
	case 2:
		return "_" + strconv.Itoa(w.source.Intn(4))
	}
	return strconv.Itoa(w.source.Intn(4))
}

func (w *writer) thing() string {
	switch w.source.Intn(6) {
	case 0, 1:
		if w.room > 0 {
			return "(" + w.expr() + ")"
		}
	case 2, 3:
		return w.pick(strings.Fields("s n o g k e u r q h m c z y t b w v x j"))
	}
	texts := []string{w.number()}
	for w.source.Intn(2) == 0 {
		texts = append(texts, w.number())
	}
	return strings.Join(texts, " ")
}

func (w *writer) expr() string {
	if w.room == 0 {
		return w.thing()
	}
	w.room--
	if w.source.Intn(3) == 0 {
		return w.pick(w.ahead) + " " + w.expr()
	}
	return w.thing() + " " + w.pick(w.between) + " " + w.expr()
}

func (w *writer) line() string {
	w.room = 1 + w.source.Intn(5)
	if w.source.Intn(5) == 0 {
		return w.pick([]string{"x", "j", "r", "m"}) + " is " + w.expr()
	}
	return w.expr()
}

func TestRunAgreesOnManyLines(t *testing.T) {
	w := newWriter(t, 1)
	for _, fuel := range []int{api.MaxFuel, 40, 21} {
		for range 40 {
			d, slow := deskWithArrays(t, fuel), slowDeskWithArrays(fuel)
			for range 50 {
				checkAgree(t, d, slow, w.line())
			}
		}
	}
}

func FuzzRun(f *testing.F) {
	for _, line := range []string{"x is 2 3 rho iota 6", "(1 2 +. r) cat flip m", "%\\ q", "_2 take t at h", "k % _1", "y", "w keep e"} {
		f.Add(line, 100)
	}
	f.Fuzz(func(t *testing.T, line string, fuel int) {
		if fuel < 21 || fuel > api.MaxFuel {
			fuel = api.MaxFuel
		}
		checkAgree(t, deskWithArrays(t, fuel), slowDeskWithArrays(fuel), line)
	})
}
