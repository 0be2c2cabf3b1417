package glyphs_test

import (
	"strings"
	"testing"
)

const (
	most  = "9223372036854775807"
	least = "-9223372036854775808"
)

func repeated(n int, text string) string {
	return strings.TrimSuffix(strings.Repeat(text+" ", n), " ")
}

func TestSignsOfOneArray(t *testing.T) {
	checkRun(t, deskWithArrays(t, 1000), []answered{
		{"+ 5", ":5"}, {"+ _5 0 5", "3:-5 0 5"}, {"+ m", "2 3:0 1 2 3 4 5"}, {"+ t", "2 2 2:0 1 2 3 4 5 6 7"},
		{"+ k", ":" + least}, {"+ g", ":" + most}, {"+ e", "0:"}, {"+ z", "2 0:"}, {"+ w", "64 64 0:"},
		{"- 5", ":-5"}, {"- _5 0 5", "3:5 0 -5"}, {"- m", "2 3:0 -1 -2 -3 -4 -5"}, {"- t", "2 2 2:0 -1 -2 -3 -4 -5 -6 -7"},
		{"- k", ":" + least}, {"- g", ":-" + most}, {"- e", "0:"}, {"- y", "0 3:"},
		{"* 5", ":1"}, {"* _5 0 5", "3:-1 0 1"}, {"* c", "2 2:1 -1 0 1"}, {"* b", "1 2 3:1 1 1 1 1 1"},
		{"* k", ":-1"}, {"* g", ":1"}, {"* e", "0:"}, {"* v", "0 64 64:"},
		{"| 5", ":5"}, {"| _5 0 5", "3:5 0 5"}, {"| c", "2 2:7 3 0 1"}, {"| 0 - t", "2 2 2:0 1 2 3 4 5 6 7"},
		{"| k", ":" + least}, {"| g", ":" + most}, {"| k + 1", ":" + most}, {"| e", "0:"}, {"| z", "2 0:"},
	})
}

func TestIota(t *testing.T) {
	checkRun(t, deskWithArrays(t, 1000), []answered{
		{"iota 0", "0:"}, {"iota 1", "1:0"}, {"iota 4", "4:0 1 2 3"}, {"rho iota 64", "1:64"}, {"63 at iota 64", ":63"},
		{"iota 65", "ErrSize 0"}, {"iota g", "ErrSize 0"}, {"1 + iota 65", "ErrSize 4"},
		{"iota _1", "ErrDomain 0"}, {"iota k", "ErrDomain 0"}, {"2 take iota _1", "ErrDomain 7"},
		{"iota 1 2", "ErrRank 0"}, {"iota u", "ErrRank 0"}, {"iota e", "ErrRank 0"}, {"iota m", "ErrRank 0"}, {"iota t", "ErrRank 0"}, {"iota w", "ErrRank 0"},
		{"iota _1 _1", "ErrRank 0"}, {"iota ravel 65", "ErrRank 0"}, {"iota 1 1 rho _1", "ErrRank 0"},
	})
}

func TestRhoAndRavelOfOneArray(t *testing.T) {
	checkRun(t, deskWithArrays(t, 1000), []answered{
		{"rho 5", "0:"}, {"rho r", "1:3"}, {"rho m", "2:2 3"}, {"rho b", "3:1 2 3"}, {"rho e", "1:0"},
		{"rho z", "2:2 0"}, {"rho y", "2:0 3"}, {"rho w", "3:64 64 0"}, {"rho v", "3:0 64 64"}, {"rho h", "1:90"}, {"rho rho t", "1:3"}, {"rho rho s", "1:0"},
		{"ravel 5", "1:5"}, {"ravel r", "3:1 2 3"}, {"ravel m", "6:0 1 2 3 4 5"}, {"ravel b", "6:9 8 7 6 5 4"},
		{"ravel e", "0:"}, {"ravel z", "0:"}, {"ravel v", "0:"}, {"rho ravel h", "1:90"},
	})
}

func TestRevOfOneArray(t *testing.T) {
	checkRun(t, deskWithArrays(t, 1000), []answered{
		{"rev 5", ":5"}, {"rev u", "1:4"}, {"rev r", "3:3 2 1"}, {"rev q", "4:2 5 -1 5"}, {"rev m", "2 3:2 1 0 5 4 3"}, {"rev t", "2 2 2:1 0 3 2 5 4 7 6"},
		{"rev b", "1 2 3:7 8 9 4 5 6"}, {"rev e", "0:"}, {"rev z", "2 0:"}, {"rev y", "0 3:"}, {"rev w", "64 64 0:"}, {"rev v", "0 64 64:"},
	})
}

func TestUpAndDown(t *testing.T) {
	checkRun(t, deskWithArrays(t, 1000), []answered{
		{"up 3 1 2", "3:1 2 0"}, {"up q", "4:1 3 0 2"}, {"up 2 2 1 1", "4:2 3 0 1"}, {"up u", "1:0"}, {"up e", "0:"}, {"up k cat g cat 0", "3:0 2 1"},
		{"down 3 1 2", "3:0 2 1"}, {"down q", "4:0 2 3 1"}, {"down 2 2 1 1", "4:0 1 2 3"}, {"down 1 1 2 2", "4:2 3 0 1"}, {"down u", "1:0"}, {"down e", "0:"}, {"down k cat g cat 0", "3:1 2 0"},
		{"up 5", "ErrRank 0"}, {"up m", "ErrRank 0"}, {"1 + up t", "ErrRank 4"}, {"up z", "ErrRank 0"}, {"up w", "ErrRank 0"},
		{"down 5", "ErrRank 0"}, {"down m", "ErrRank 0"}, {"rev down t", "ErrRank 4"}, {"down y", "ErrRank 0"}, {"down v", "ErrRank 0"},
	})
}

func TestOrderStaysThatOfTheSameCellsInALongRow(t *testing.T) {
	checkRun(t, deskWithArrays(t, 1000), []answered{
		{"(iota 64) = up 64 rho 7", "64:" + repeated(64, "1")},
		{"(iota 64) = down 64 rho 7", "64:" + repeated(64, "1")},
		{"64 take up 2 | iota 64", "64:" + everySecond(0) + " " + everySecond(1)},
		{"64 take down 2 | iota 64", "64:" + everySecond(1) + " " + everySecond(0)},
	})
}

func everySecond(from int) string {
	var list []int
	for i := from; i < 64; i += 2 {
		list = append(list, i)
	}
	return inner(list)
}

func TestFlip(t *testing.T) {
	checkRun(t, deskWithArrays(t, 1000), []answered{
		{"flip 5", ":5"}, {"flip r", "3:1 2 3"}, {"flip m", "3 2:0 3 1 4 2 5"}, {"flip c", "2 2:7 0 -3 1"},
		{"flip t", "2 2 2:0 4 2 6 1 5 3 7"}, {"flip b", "3 2 1:9 6 8 5 7 4"}, {"flip 2 3 4 rho iota 24", "4 3 2:0 12 4 16 8 20 1 13 5 17 9 21 2 14 6 18 10 22 3 15 7 19 11 23"},
		{"flip e", "0:"}, {"flip z", "0 2:"}, {"flip y", "3 0:"}, {"flip w", "0 64 64:"}, {"flip v", "64 64 0:"}, {"flip 2 0 3 rho 1", "3 0 2:"},
	})
}

func TestFolds(t *testing.T) {
	checkRun(t, deskWithArrays(t, 1000), []answered{
		{"+/ 5", ":5"}, {"+/ r", ":6"}, {"+/ m", "2:3 12"}, {"+/ t", "2 2:1 5 9 13"}, {"+/ b", "1 2:24 15"}, {"+/ h", ":90"},
		{"-/ 5", ":5"}, {"-/ r", ":2"}, {"-/ 9 1 2 3", ":7"}, {"-/ m", "2:1 4"}, {"-/ t", "2 2:-1 -1 -1 -1"},
		{"*/ 5", ":5"}, {"*/ 2 3 4", ":24"}, {"*/ m", "2:0 60"}, {"*/ b", "1 2:504 120"},
		{"%/ 5", ":5"}, {"%/ 100 7 2", ":33"}, {"%/ 7 _2", ":-4"}, {"%/ 2 2 rho 7 _2 9 3", "2:-4 3"},
		{"|/ _5", ":-5"}, {"|/ 5 3 7", ":1"}, {"|/ 4 0 7", ":3"}, {"|/ c", "2:4 1"},
		{"&/ 5", ":5"}, {"&/ q", ":-1"}, {"&/ m", "2:0 3"}, {"!/ 5", ":5"}, {"!/ q", ":5"}, {"!/ t", "2 2:1 3 5 7"},
		{"=/ 5", ":5"}, {"=/ 1 2 2", ":1"}, {"=/ 2 2 2", ":0"}, {"=/ c", "2:0 0"}, {"</ 5", ":5"}, {"</ 0 2 3", ":1"}, {"</ 3 2 1", ":0"}, {"</ m", "2:1 0"},
		{"+/ u", ":4"}, {"-/ u", ":4"}, {"=/ u", ":4"}, {"</ u", ":4"}, {"+/ 2 1 rho 7 8", "2:7 8"}, {"%/ ravel 0", ":0"}, {"</ 1 1 1 rho 9", "1 1:9"},
	})
}

func TestFoldsOfNoCells(t *testing.T) {
	d := deskWithArrays(t, 1000)
	none := map[string]string{"+": "0", "-": "0", "|": "0", "<": "0", "*": "1", "%": "1", "=": "1", "&": most, "!": least}
	for sign, cell := range none {
		checkRun(t, d, []answered{
			{sign + "/ e", ":" + cell}, {sign + "/ z", "2:" + cell + " " + cell}, {sign + "/ 2 3 0 rho 1", "2 3:" + repeated(6, cell)},
			{sign + "/ y", "0:"}, {sign + "/ v", "0 64:"}, {sign + "/ 0 0 rho 1", "0:"}, {sign + "/ 8 8 0 rho 1", "8 8:" + repeated(64, cell)},
			{sign + "/ 64 0 rho 1", "64:" + repeated(64, cell)}, {sign + "/ 5 13 0 rho 1", "ErrSize 0"},
			{sign + "/ w", "ErrSize 0"}, {"rho " + sign + "/ w", "ErrSize 4"}, {sign + "/ 0 64 0 rho 1", "0 64:"},
		})
	}
}

func TestScans(t *testing.T) {
	checkRun(t, deskWithArrays(t, 1000), []answered{
		{"+\\ 5", ":5"}, {"+\\ r", "3:1 3 6"}, {"+\\ m", "2 3:0 1 3 3 7 12"}, {"+\\ t", "2 2 2:0 1 2 5 4 9 6 13"}, {"+\\ u", "1:4"},
		{"-\\ 5", ":5"}, {"-\\ r", "3:1 -1 2"}, {"-\\ 1 2 3 4", "4:1 -1 2 -2"}, {"-\\ m", "2 3:0 -1 1 3 -1 4"},
		{"*\\ 2 3 4", "3:2 6 24"}, {"*\\ b", "1 2 3:9 72 504 6 30 120"}, {"%\\ 100 7 2", "3:100 14 33"}, {"|\\ 5 3 7", "3:5 3 1"},
		{"&\\ q", "4:5 -1 -1 -1"}, {"!\\ q", "4:5 5 5 5"}, {"!\\ m", "2 3:0 1 2 3 4 5"}, {"=\\ 1 2 2", "3:1 0 1"}, {"<\\ 0 2 3", "3:0 1 1"}, {"<\\ 5", ":5"},
		{"0 90 = (+/ h) cat +/ h", "2:0 1"}, {"+/ +\\ h", ":4095"},
		{"+\\ e", "0:"}, {"-\\ z", "2 0:"}, {"*\\ y", "0 3:"}, {"%\\ w", "64 64 0:"}, {"!\\ v", "0 64 64:"},
	})
}

func TestADomainErrorInsideAFold(t *testing.T) {
	checkRun(t, deskWithArrays(t, 1000), []answered{
		{"%/ 1 0", "ErrDomain 0"}, {"%/ 1 0 1", "ErrDomain 0"}, {"%/ 0 1", ":0"}, {"%/ 5 1 2", "ErrDomain 0"}, {"%/ 2 2 rho 4 2 1 0", "ErrDomain 0"}, {"2 + %/ 2 1 2 rho 4 2 1 0", "ErrDomain 4"},
		{"%\\ 1 0", "ErrDomain 0"}, {"%\\ 1 0 1", "ErrDomain 0"}, {"%\\ 0 1", "2:0 0"}, {"%\\ 2 2 rho 4 2 1 0", "ErrDomain 0"}, {"(1) + %\\ 5 1 2", "ErrDomain 6"},
		{"%/ 5", ":5"}, {"%/ 0", ":0"}, {"%\\ 0", ":0"}, {"%\\ ravel 0", "1:0"}, {"|/ 0 5", ":5"}, {"|\\ 0 0", "2:0 0"},
	})
}
