package glyphs_test

import "testing"

var allSigns = []string{"+", "-", "*", "%", "|", "&", "!", "=", "<"}

func TestSignsOfTwoScalars(t *testing.T) {
	checkRun(t, newDesk(t, 1000), []answered{
		{"2 + 3", ":5"}, {"2 - 3", ":-1"}, {"2 * _3", ":-6"}, {"3 & 2", ":2"}, {"_3 & 2", ":-3"}, {"3 ! 2", ":3"}, {"_3 ! 2", ":2"},
		{"3 = 3", ":1"}, {"3 = _3", ":0"}, {"2 < 3", ":1"}, {"3 < 3", ":0"}, {"_2 < _3", ":0"}, {"_3 < 2", ":1"},
		{"7 % 2", ":3"}, {"7 % _2", ":-4"}, {"_7 % 2", ":-4"}, {"_7 % _2", ":3"}, {"6 % _2", ":-3"}, {"_6 % 2", ":-3"}, {"1 % 2", ":0"}, {"_1 % 2", ":-1"}, {"1 % _2", ":-1"}, {"0 % _5", ":0"},
		{"2 | 7", ":1"}, {"_2 | 7", ":-1"}, {"2 | _7", ":1"}, {"_2 | _7", ":-1"}, {"0 | 7", ":7"}, {"0 | _7", ":-7"}, {"3 | 6", ":0"}, {"_3 | 6", ":0"}, {"7 | 2", ":2"}, {"7 | _2", ":5"}, {"_7 | 2", ":-5"}, {"5 | 0", ":0"},
	})
}

func TestNumbersGoRound(t *testing.T) {
	checkRun(t, deskWithArrays(t, 1000), []answered{
		{"g + 1", ":" + least}, {"k + _1", ":" + most}, {"g + g", ":-2"}, {"k + k", ":0"}, {"k + g", ":-1"},
		{"k - 1", ":" + most}, {"g - _1", ":" + least}, {"0 - k", ":" + least}, {"k - g", ":1"}, {"g - k", ":-1"}, {"0 - g", ":-" + most},
		{"g * 2", ":-2"}, {"k * 2", ":0"}, {"k * _1", ":" + least}, {"g * g", ":1"}, {"k * k", ":0"}, {"k * g", ":" + least}, {"4294967296 * 4294967296", ":0"}, {"4294967296 * 2147483648", ":" + least},
		{"k % _1", ":" + least}, {"g % _1", ":-" + most}, {"k % k", ":1"}, {"k % g", ":-2"}, {"g % k", ":-1"}, {"1 % k", ":-1"}, {"k % 2", ":-4611686018427387904"}, {"g % 2", ":4611686018427387903"}, {"k % 3", ":-3074457345618258603"}, {"k % 1", ":" + least}, {"k % 0", "ErrDomain 2"}, {"0 % k", ":0"},
		{"_1 | k", ":0"}, {"1 | k", ":0"}, {"g | k", ":9223372036854775806"}, {"k | g", ":-1"}, {"k | k", ":0"}, {"3 | k", ":1"}, {"_3 | k", ":-2"}, {"0 | k", ":" + least}, {"k | 1", ":-9223372036854775807"}, {"k | _1", ":-1"}, {"g | _1", ":9223372036854775806"},
		{"k & g", ":" + least}, {"g & k", ":" + least}, {"k ! g", ":" + most}, {"g ! k", ":" + most}, {"k = k", ":1"}, {"k = g", ":0"}, {"g = g", ":1"}, {"k < g", ":1"}, {"g < k", ":0"}, {"k < k", ":0"}, {"g < g", ":0"},
		{"+/ g cat 1", ":" + least}, {"+\\ g cat 1 1", "3:" + most + " " + least + " -9223372036854775807"}, {"*/ k cat _1", ":" + least}, {"g +. 1 2", "2:" + least + " -9223372036854775807"}, {"- k cat g", "2:" + least + " -" + most},
		{"(_9223372036854775807 - 1) % _1", ":" + least}, {"_9223372036854775807 - 2", ":" + most},
	})
}

func TestSignsGoCellByCell(t *testing.T) {
	checkRun(t, deskWithArrays(t, 1000), []answered{
		{"2 + r", "3:3 4 5"}, {"r - 2", "3:-1 0 1"}, {"2 - r", "3:1 0 -1"}, {"r * r", "3:1 4 9"}, {"10 % r", "3:10 5 3"}, {"r % 2", "3:0 1 1"}, {"2 | r", "3:1 0 1"}, {"r | 5", "3:0 1 2"}, {"r & 3 2 1", "3:1 2 1"}, {"r ! 3 2 1", "3:3 2 3"}, {"r = 3 2 1", "3:0 1 0"}, {"r < 3 2 1", "3:1 0 0"},
		{"m + m", "2 3:0 2 4 6 8 10"}, {"m - 1", "2 3:-1 0 1 2 3 4"}, {"1 - m", "2 3:1 0 -1 -2 -3 -4"}, {"c * c", "2 2:49 9 0 1"}, {"m < 3", "2 3:1 1 1 0 0 0"}, {"3 < m", "2 3:0 0 0 0 1 1"},
		{"t + t", "2 2 2:0 2 4 6 8 10 12 14"}, {"10 - t", "2 2 2:10 9 8 7 6 5 4 3"}, {"t = 3", "2 2 2:0 0 0 1 0 0 0 0"}, {"b ! 7", "1 2 3:9 8 7 7 7 7"},
		{"1 + u", "1:5"}, {"u + u", "1:8"}, {"rho h + h", "1:90"}, {"rho 1 + h", "1:90"},
	})
}

func TestSignsOnNoCells(t *testing.T) {
	d := deskWithArrays(t, 1000)
	for _, sign := range allSigns {
		checkRun(t, d, []answered{
			{"0 " + sign + " e", "0:"}, {"e " + sign + " 0", "0:"}, {"e " + sign + " e", "0:"}, {"z " + sign + " 0", "2 0:"}, {"5 " + sign + " y", "0 3:"},
			{"z " + sign + " z", "2 0:"}, {"w " + sign + " w", "64 64 0:"}, {"v " + sign + " 0", "0 64 64:"},
			{"e " + sign + " u", "ErrLength 2"}, {"z " + sign + " y", "ErrLength 2"}, {"e " + sign + " z", "ErrRank 2"}, {"w " + sign + " v", "ErrLength 2"},
		})
	}
}

func TestSignsThatDoNotGoTogether(t *testing.T) {
	d := deskWithArrays(t, 1000)
	for _, sign := range allSigns {
		checkRun(t, d, []answered{
			{"1 2 " + sign + " 1 2 3", "ErrLength 4"}, {"r  " + sign + " u", "ErrLength 3"}, {"u " + sign + " r", "ErrLength 2"}, {"m " + sign + " c", "ErrLength 2"}, {"m " + sign + " flip m", "ErrLength 2"}, {"t " + sign + " b", "ErrLength 2"},
			{"r " + sign + " m", "ErrRank 2"}, {"m " + sign + " r", "ErrRank 2"}, {"m " + sign + " b", "ErrRank 2"}, {"t " + sign + " c", "ErrRank 2"}, {"1 + r " + sign + " t", "ErrRank 6"}, {"u " + sign + " 1 1 rho 4", "ErrRank 2"},
		})
	}
	checkRun(t, d, []answered{
		{"1 % 0", "ErrDomain 2"}, {"0 % 0", "ErrDomain 2"}, {"1 2 % 1 0", "ErrDomain 4"}, {"r % 0", "ErrDomain 2"}, {"1 % 1 1 0", "ErrDomain 2"}, {"m % m", "ErrDomain 2"}, {"t % t", "ErrDomain 2"}, {"0 % t", "ErrDomain 2"},
		{"r % 0 0", "ErrLength 2"}, {"r % 1 1 rho 0", "ErrRank 2"}, {"c % m", "ErrLength 2"}, {"c % t", "ErrRank 2"}, {"0 0 | 3 4", "2:3 4"},
	})
}

func TestOuter(t *testing.T) {
	checkRun(t, deskWithArrays(t, 1000), []answered{
		{"2 +. 3", ":5"}, {"5 -. 1 2", "2:4 3"}, {"1 2 -. 5", "2:-4 -3"}, {"1 2 *. r", "2 3:1 2 3 2 4 6"}, {"r %. 1 2", "3 2:1 0 2 1 3 1"}, {"2 3 |. 7 8", "2 2:1 0 1 2"}, {"r &. 2 0", "3 2:1 0 2 0 2 0"}, {"r !. 2", "3:2 2 3"}, {"r =. r", "3 3:1 0 0 0 1 0 0 0 1"}, {"r <. r", "3 3:0 1 1 0 0 1 0 0 0"},
		{"c -. 1 2", "2 2 2:6 5 -4 -5 -1 -2 0 -1"}, {"1 2 -. c", "2 2 2:-6 4 1 0 -5 5 2 1"}, {"1 -. c", "2 2:-6 4 1 0"}, {"b -. 1", "1 2 3:8 7 6 5 4 3"}, {"0 -. t", "2 2 2:0 -1 -2 -3 -4 -5 -6 -7"},
		{"e +. r", "0 3:"}, {"r +. e", "3 0:"}, {"e +. e", "0 0:"}, {"z +. r", "2 0 3:"}, {"5 +. w", "64 64 0:"}, {"0 %. e", "0:"}, {"e %. 0", "0:"}, {"e %. 0 0", "0 2:"}, {"0 %. w", "64 64 0:"},
		{"rho (iota 8) +. iota 8", "2:8 8"}, {"rho (iota 64) +. iota 0", "2:64 0"}, {"rho z +. iota 64", "3:2 0 64"},
		{"r %. 1 0", "ErrDomain 2"}, {"1 %. 0", "ErrDomain 2"}, {"0 0 %. 0", "ErrDomain 4"}, {"1 2 + c %. 0", "ErrDomain 8"},
		{"(iota 9) +. iota 8", "ErrSize 9"}, {"(iota 9) %. iota 8", "ErrSize 9"}, {"e +. h", "ErrSize 2"}, {"h +. e", "ErrSize 2"}, {"1 +. h", "ErrSize 2"}, {"h +. 1", "ErrSize 2"}, {"z +. h", "ErrSize 2"}, {"m +. iota 11", "ErrSize 2"},
		{"c +. c", "ErrRank 2"}, {"t +. u", "ErrRank 2"}, {"u +. t", "ErrRank 2"}, {"w +. e", "ErrRank 2"}, {"t +. h", "ErrRank 2"}, {"t %. z", "ErrRank 2"}, {"t %. 0 0", "ErrRank 2"},
	})
}

func TestRhoOfTwo(t *testing.T) {
	checkRun(t, deskWithArrays(t, 1000), []answered{
		{"3 rho 5 6", "3:5 6 5"}, {"1 rho 5 6", "1:5"}, {"0 rho 5", "0:"}, {"u rho r", "4:1 2 3 1"}, {"2 3 rho iota 4", "2 3:0 1 2 3 0 1"}, {"2 2 rho m", "2 2:0 1 2 3"}, {"2 2 2 rho r", "2 2 2:1 2 3 1 2 3 1 2"}, {"3 rho t", "3:0 1 2"}, {"2 rho 7", "2:7 7"},
		{"e rho 5 6", ":5"}, {"e rho 5", ":5"}, {"e rho t", ":0"}, {"0 rho e", "0:"}, {"2 0 rho e", "2 0:"}, {"0 2 3 rho z", "0 2 3:"}, {"0 64 64 rho 1", "0 64 64:"}, {"2 0 3 rho r", "2 0 3:"}, {"64 64 0 rho w", "64 64 0:"},
		{"rho 64 rho 1", "1:64"}, {"rho 8 8 rho 1", "2:8 8"}, {"rho 4 4 4 rho 1", "3:4 4 4"}, {"rho 1 64 1 rho 1", "3:1 64 1"},
		{"m rho 1", "ErrRank 2"}, {"t rho 1", "ErrRank 2"}, {"z rho 1", "ErrRank 2"}, {"1 1 1 1 rho 1", "ErrRank 8"}, {"_1 1 1 1 rho 1", "ErrRank 9"}, {"0 0 0 0 rho e", "ErrRank 8"}, {"(1 1 rho _1) rho e", "ErrRank 13"},
		{"_1 rho 1", "ErrDomain 3"}, {"2 _1 rho 1", "ErrDomain 5"}, {"65 _1 rho 1", "ErrDomain 6"}, {"_1 65 rho 1", "ErrDomain 6"}, {"_1 rho e", "ErrDomain 3"}, {"0 _1 rho 1", "ErrDomain 5"}, {"k rho 1", "ErrDomain 2"},
		{"65 rho 1", "ErrSize 3"}, {"8 9 rho 1", "ErrSize 4"}, {"5 13 rho e", "ErrSize 5"}, {"65 rho e", "ErrSize 3"}, {"0 65 rho 1", "ErrSize 5"}, {"65 0 rho e", "ErrSize 5"}, {"g rho 1", "ErrSize 2"}, {"(g cat 0) rho 1", "ErrSize 10"}, {"4294967296 4294967296 rho 1", "ErrSize 22"}, {"4294967297 1 rho 1", "ErrSize 13"}, {"4 4 5 rho 1", "ErrSize 6"},
		{"2 rho e", "ErrLength 2"}, {"e rho e", "ErrLength 2"}, {"1 1 rho z", "ErrLength 4"}, {"64 rho w", "ErrLength 3"},
	})
}

func TestRevOfTwo(t *testing.T) {
	checkRun(t, deskWithArrays(t, 1000), []answered{
		{"1 rev iota 4", "4:1 2 3 0"}, {"_1 rev iota 4", "4:3 0 1 2"}, {"0 rev r", "3:1 2 3"}, {"4 rev iota 4", "4:0 1 2 3"}, {"5 rev iota 4", "4:1 2 3 0"}, {"_6 rev iota 4", "4:2 3 0 1"}, {"9 rev u", "1:4"},
		{"1 rev m", "2 3:1 2 0 4 5 3"}, {"_1 rev m", "2 3:2 0 1 5 3 4"}, {"1 rev t", "2 2 2:1 0 3 2 5 4 7 6"}, {"2 rev b", "1 2 3:7 9 8 4 6 5"},
		{"g rev r", "3:2 3 1"}, {"k rev r", "3:2 3 1"}, {"(g - 1) rev r", "3:1 2 3"}, {"(0 - g) rev g rev r", "3:1 2 3"}, {"g rev iota 4", "4:3 0 1 2"}, {"k rev iota 4", "4:0 1 2 3"}, {"g rev iota 5", "5:2 3 4 0 1"}, {"k rev iota 5", "5:2 3 4 0 1"},
		{"5 rev 7", ":7"}, {"k rev 7", ":7"}, {"5 rev e", "0:"}, {"k rev z", "2 0:"}, {"1 rev y", "0 3:"}, {"_1 rev w", "64 64 0:"}, {"1 rev v", "0 64 64:"},
		{"1 2 rev r", "ErrRank 4"}, {"u rev r", "ErrRank 2"}, {"e rev e", "ErrRank 2"}, {"m rev m", "ErrRank 2"}, {"u rev 5", "ErrRank 2"}, {"w rev 5", "ErrRank 2"},
	})
}

func TestTake(t *testing.T) {
	checkRun(t, deskWithArrays(t, 1000), []answered{
		{"2 take r", "2:1 2"}, {"3 take r", "3:1 2 3"}, {"5 take r", "5:1 2 3 0 0"}, {"0 take r", "0:"}, {"_2 take r", "2:2 3"}, {"_3 take r", "3:1 2 3"}, {"_5 take r", "5:0 0 1 2 3"}, {"_3 take 1 2", "3:0 1 2"},
		{"2 take 7", "2:7 0"}, {"_2 take 7", "2:0 7"}, {"1 take 7", "1:7"}, {"0 take 7", "0:"}, {"2 take e", "2:0 0"}, {"_2 take e", "2:0 0"}, {"0 take e", "0:"},
		{"rho 64 take r", "1:64"}, {"rho _64 take r", "1:64"}, {"64 take h", "64:" + repeated(64, "1")}, {"_64 take h", "64:" + repeated(64, "1")}, {"_2 take 5 drop iota 9", "2:7 8"},
		{"65 take r", "ErrSize 3"}, {"_65 take r", "ErrSize 4"}, {"g take r", "ErrSize 2"}, {"k take r", "ErrSize 2"}, {"65 take h", "ErrSize 3"}, {"65 take 5", "ErrSize 3"},
		{"1 2 take r", "ErrRank 4"}, {"u take r", "ErrRank 2"}, {"e take r", "ErrRank 2"}, {"1 take m", "ErrRank 2"}, {"1 take t", "ErrRank 2"}, {"0 take z", "ErrRank 2"}, {"65 take m", "ErrRank 3"}, {"(ravel 65) take r", "ErrRank 11"}, {"m take 1", "ErrRank 2"},
	})
}

func TestDrop(t *testing.T) {
	checkRun(t, deskWithArrays(t, 1000), []answered{
		{"1 drop r", "2:2 3"}, {"0 drop r", "3:1 2 3"}, {"3 drop r", "0:"}, {"4 drop r", "0:"}, {"_1 drop r", "2:1 2"}, {"_3 drop r", "0:"}, {"_4 drop r", "0:"}, {"g drop r", "0:"}, {"k drop r", "0:"}, {"_2 drop q", "2:5 -1"},
		{"0 drop 7", "1:7"}, {"1 drop 7", "0:"}, {"_1 drop 7", "0:"}, {"0 drop e", "0:"}, {"5 drop e", "0:"}, {"k drop e", "0:"}, {"rho 1 drop h", "1:89"}, {"rho _1 drop h", "1:89"}, {"rho 0 drop h", "1:90"},
		{"1 2 drop r", "ErrRank 4"}, {"u drop r", "ErrRank 2"}, {"e drop r", "ErrRank 2"}, {"1 drop m", "ErrRank 2"}, {"1 drop t", "ErrRank 2"}, {"0 drop z", "ErrRank 2"}, {"m drop r", "ErrRank 2"}, {"2 + 1 drop w", "ErrRank 6"},
	})
}

func TestCat(t *testing.T) {
	checkRun(t, deskWithArrays(t, 1000), []answered{
		{"1 cat 2", "2:1 2"}, {"1 2 cat 3", "3:1 2 3"}, {"1 cat 2 3", "3:1 2 3"}, {"r cat q", "7:1 2 3 5 -1 5 2"}, {"e cat r", "3:1 2 3"}, {"r cat e", "3:1 2 3"}, {"e cat e", "0:"}, {"e cat 5", "1:5"},
		{"m cat m", "2 6:0 1 2 0 1 2 3 4 5 3 4 5"}, {"m cat 2 1 rho 8 9", "2 4:0 1 2 8 3 4 5 9"}, {"c cat m", "2 5:7 -3 0 1 2 0 1 3 4 5"}, {"t cat t", "2 2 4:0 1 0 1 2 3 2 3 4 5 4 5 6 7 6 7"}, {"t cat 2 2 1 rho 9", "2 2 3:0 1 9 2 3 9 4 5 9 6 7 9"},
		{"m cat z", "2 3:0 1 2 3 4 5"}, {"z cat m", "2 3:0 1 2 3 4 5"}, {"z cat z", "2 0:"}, {"y cat y", "0 6:"}, {"y cat 0 0 rho 1", "0 3:"}, {"w cat w", "64 64 0:"}, {"y cat 0 61 rho 1", "0 64:"},
		{"rho (iota 40) cat iota 24", "1:64"}, {"rho (iota 63) cat 1", "1:64"}, {"rho (4 8 rho 1) cat 4 8 rho 1", "2:4 16"},
		{"(iota 40) cat iota 25", "ErrSize 10"}, {"(iota 64) cat 1", "ErrSize 10"}, {"1 cat iota 64", "ErrSize 2"}, {"e cat h", "ErrSize 2"}, {"h cat e", "ErrSize 2"}, {"y cat 0 62 rho 1", "ErrSize 2"}, {"v cat v", "ErrSize 2"}, {"(8 8 rho 1) cat 8 1 rho 1", "ErrSize 12"}, {"(4 4 4 rho 1) cat 4 4 1 rho 1", "ErrSize 14"},
		{"m cat 3 2 rho 1", "ErrLength 2"}, {"t cat b", "ErrLength 2"}, {"z cat y", "ErrLength 2"}, {"t cat 2 1 2 rho 1", "ErrLength 2"}, {"(8 8 rho 1) cat 1 8 rho 1", "ErrLength 12"}, {"w cat v", "ErrLength 2"}, {"v cat 1 64 1 rho 1", "ErrLength 2"},
		{"1 cat m", "ErrRank 2"}, {"m cat 1", "ErrRank 2"}, {"r cat m", "ErrRank 2"}, {"m cat t", "ErrRank 2"}, {"t cat 1", "ErrRank 2"}, {"h cat m", "ErrRank 2"}, {"e cat z", "ErrRank 2"}, {"h cat w", "ErrRank 2"},
	})
}

func TestIn(t *testing.T) {
	checkRun(t, deskWithArrays(t, 1000), []answered{
		{"3 in 3", ":1"}, {"3 in 4", ":0"}, {"3 in r", ":1"}, {"r in 2", "3:0 1 0"}, {"1 5 2 in 2 3 1", "3:1 0 1"}, {"r in m", "3:1 1 1"}, {"m in r", "2 3:0 1 1 1 0 0"}, {"t in c", "2 2 2:1 1 0 0 0 0 0 1"}, {"7 in t", ":1"}, {"8 in t", ":0"},
		{"k in g", ":0"}, {"k in k cat g", ":1"}, {"u in 1 1 rho 4", "1:1"}, {"rho h in 1", "1:90"},
		{"3 in e", ":0"}, {"r in e", "3:0 0 0"}, {"e in r", "0:"}, {"e in e", "0:"}, {"z in 1", "2 0:"}, {"0 in w", ":0"}, {"m in z", "2 3:0 0 0 0 0 0"}, {"v in t", "0 64 64:"},
	})
}

func TestAt(t *testing.T) {
	checkRun(t, deskWithArrays(t, 1000), []answered{
		{"2 0 at 7 8 9", "2:9 7"}, {"1 at 7 8", ":8"}, {"0 at u", ":4"}, {"u at iota 5", "1:4"}, {"0 0 0 0 at r", "4:1 1 1 1"}, {"(2 2 rho 0 1) at 7 8", "2 2:7 8 7 8"}, {"t at 10 + iota 8", "2 2 2:10 11 12 13 14 15 16 17"}, {"89 at h", ":1"}, {"rho (0 * h) at r", "1:90"},
		{"e at r", "0:"}, {"e at e", "0:"}, {"z at e", "2 0:"}, {"w at r", "64 64 0:"}, {"v at e", "0 64 64:"},
		{"3 at r", "ErrIndex 2"}, {"_1 at r", "ErrIndex 3"}, {"3 1 2 at 5 6 7", "ErrIndex 6"}, {"0 1 3 at r", "ErrIndex 6"}, {"0 _1 at r", "ErrIndex 5"}, {"0 at e", "ErrIndex 2"}, {"m at iota 5", "ErrIndex 2"}, {"t at iota 7", "ErrIndex 2"}, {"g at r", "ErrIndex 2"}, {"k at r", "ErrIndex 2"}, {"90 at h", "ErrIndex 3"}, {"4294967296 at r", "ErrIndex 11"},
		{"1 at 5", "ErrRank 2"}, {"0 at m", "ErrRank 2"}, {"0 at t", "ErrRank 2"}, {"e at z", "ErrRank 2"}, {"_1 at 5", "ErrRank 3"}, {"9 at w", "ErrRank 2"}, {"r at s", "ErrRank 2"},
	})
}

func TestKeep(t *testing.T) {
	checkRun(t, deskWithArrays(t, 1000), []answered{
		{"1 0 2 keep 7 8 9", "3:7 9 9"}, {"2 keep 7 8", "4:7 7 8 8"}, {"0 keep r", "0:"}, {"1 keep r", "3:1 2 3"}, {"0 0 0 keep r", "0:"}, {"u keep u", "4:4 4 4 4"}, {"3 keep u", "3:4 4 4"},
		{"5 keep e", "0:"}, {"g keep e", "0:"}, {"e keep e", "0:"}, {"rho 32 keep 1 2", "1:64"}, {"rho 64 0 keep 1 2", "1:64"}, {"rho 31 33 keep 1 2", "1:64"}, {"0 keep h", "0:"}, {"(0 * h) keep h", "0:"},
		{"33 keep 1 2", "ErrSize 3"}, {"64 1 keep 1 2", "ErrSize 5"}, {"1 64 keep 1 2", "ErrSize 5"}, {"65 keep u", "ErrSize 3"}, {"g keep 1 2", "ErrSize 2"}, {"(g cat g) keep 1 2", "ErrSize 10"}, {"(1 cat g) keep 1 2", "ErrSize 10"}, {"4294967296 keep 1 2", "ErrSize 11"}, {"(2 rho 4611686018427387904 * 2) keep 1 2", "ErrDomain 32"}, {"1 keep h", "ErrSize 2"}, {"h keep h", "ErrSize 2"},
		{"_1 keep r", "ErrDomain 3"}, {"1 _1 1 keep r", "ErrDomain 7"}, {"_1 keep e", "ErrDomain 3"}, {"k keep r", "ErrDomain 2"}, {"65 _1 keep 1 2", "ErrDomain 6"}, {"_1 65 keep 1 2", "ErrDomain 6"},
		{"1 0 keep r", "ErrLength 4"}, {"_1 0 keep r", "ErrLength 5"}, {"r keep e", "ErrLength 2"}, {"e keep r", "ErrLength 2"}, {"u keep 1 2", "ErrLength 2"}, {"99 99 keep u", "ErrLength 6"},
		{"1 keep 5", "ErrRank 2"}, {"1 keep m", "ErrRank 2"}, {"m keep r", "ErrRank 2"}, {"m keep iota 6", "ErrRank 2"}, {"t keep e", "ErrRank 2"}, {"1 keep t", "ErrRank 2"}, {"_1 keep 5", "ErrRank 3"}, {"u keep 4", "ErrRank 2"}, {"z keep e", "ErrRank 2"}, {"1 keep w", "ErrRank 2"}, {"_1 _1 keep m", "ErrRank 6"},
	})
}
