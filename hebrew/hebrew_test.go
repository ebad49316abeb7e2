package hebrew_test

import (
	"math"
	"testing"

	"tryst/api"
	"tryst/hebrew"
)

// The new moons of these tests are counted in parts, 1080 of them an hour. The first one comes 5 hours
// and 204 parts after the beginning of day -1373427, a Monday.
const (
	hourParts  = 1080
	dayParts   = 24 * hourParts
	monthParts = 29*dayParts + 12*hourParts + 793
	firstMoon  = 5*hourParts + 204
	firstDay   = -1373427
)

const (
	sunday    = 0
	monday    = 1
	tuesday   = 2
	wednesday = 3
	friday    = 5
)

// In these years of 19 there is a 13th month.
func listedLeap(year int) bool {
	switch year % 19 {
	case 3, 6, 8, 11, 14, 17, 0:
		return true
	}
	return false
}

// newYears returns the days on which the years from 1 to last begin, year by year, from the new moons
// and the four rules by which the beginning is usually put off. They are another way to say what the
// chapter says with the elapsed days and the delay.
func newYears(last int) map[int]int {
	begins := map[int]int{}
	moon := firstMoon
	for year := 1; year <= last; year++ {
		begins[year] = firstDay + putOff(moon, listedLeap(year), listedLeap(year-1))
		moon += 12 * monthParts
		if listedLeap(year) {
			moon += monthParts
		}
	}
	return begins
}

func putOff(moon int, leap, afterLeap bool) int {
	n, at := moon/dayParts, moon%dayParts
	weekday := (n + monday) % 7
	switch {
	case at >= 18*hourParts:
		n++
	case weekday == tuesday && at >= 9*hourParts+204 && !leap:
		n++
	case weekday == monday && at >= 15*hourParts+589 && afterLeap:
		n++
	}
	switch (n + monday) % 7 {
	case sunday, wednesday, friday:
		n++
	}
	return n
}

// The months of a year, in their order.
func order(leap bool) []int {
	if leap {
		return []int{7, 8, 9, 10, 11, 12, 13, 1, 2, 3, 4, 5, 6}
	}
	return []int{7, 8, 9, 10, 11, 12, 1, 2, 3, 4, 5, 6}
}

// The lengths of the months of a year with so many days, in their order.
func lengths(days int) []int {
	switch days {
	case 353:
		return []int{30, 29, 29, 29, 30, 29, 30, 29, 30, 29, 30, 29}
	case 354:
		return []int{30, 29, 30, 29, 30, 29, 30, 29, 30, 29, 30, 29}
	case 355:
		return []int{30, 30, 30, 29, 30, 29, 30, 29, 30, 29, 30, 29}
	case 383:
		return []int{30, 29, 29, 29, 30, 30, 29, 30, 29, 30, 29, 30, 29}
	case 384:
		return []int{30, 29, 30, 29, 30, 30, 29, 30, 29, 30, 29, 30, 29}
	case 385:
		return []int{30, 30, 30, 29, 30, 30, 29, 30, 29, 30, 29, 30, 29}
	}
	return nil
}

// Years so far away that arithmetic could wrap round. For the last five of them, 235 times the year is
// a multiple of 2^64 plus about 235 times 5787, 5787, 9000, 4000 and 13000, so such arithmetic would
// find a day of layer 1.
var farYears = []int{
	math.MinInt64, math.MinInt64 + 1, math.MinInt64 / 235, math.MinInt64 / 7, math.MinInt32, math.MaxInt32,
	math.MaxInt64 / 235, math.MaxInt64 / 7, math.MaxInt64 - 1, math.MaxInt64,
	8556149378869542494, 7064710496314302151, 2119413148894297909, 7221704062899062505, -4317323081080945888,
}

func checkPair(t *testing.T, day int, d api.Date) {
	if got, e := hebrew.Hebrew(day); got != d || e != api.OK {
		t.Errorf("Hebrew(%d) = %v, %v, want %v", day, got, e, d)
	}
	if got, e := hebrew.FromHebrew(d); got != day || e != api.OK {
		t.Errorf("FromHebrew(%v) = %d, %v, want %d", d, got, e, day)
	}
}

func checkInvalid(t *testing.T, dates ...api.Date) {
	for _, d := range dates {
		if day, e := hebrew.FromHebrew(d); day != 0 || e != api.ErrRange {
			t.Errorf("FromHebrew(%v) = %d, %v, want 0, ErrRange", d, day, e)
		}
	}
}

func checkBegins(t *testing.T, year, day int) {
	if got, e := hebrew.Begins(year); got != day || e != api.OK {
		t.Errorf("Begins(%d) = %d, %v, want %d", year, got, e, day)
	}
}

func checkLength(t *testing.T, year, month, length int) {
	if got := hebrew.Length(year, month); got != length {
		t.Errorf("Length(%d, %d) = %d, want %d", year, month, got, length)
	}
}

// P6.1, leap years

func TestLeapYears(t *testing.T) {
	for year := 1; year <= 20000; year++ {
		if got := hebrew.Leap(year); got != listedLeap(year) {
			t.Errorf("Leap(%d) = %v", year, got)
		}
	}
}

// TestLeapRule works the rule out for each year, word for word.
func TestLeapRule(t *testing.T) {
	for year := 1; year <= 20000; year++ {
		if got := hebrew.Leap(year); got != ((7*year+1)%19 < 7) {
			t.Errorf("Leap(%d) = %v", year, got)
		}
	}
}

func TestLeapYearsByName(t *testing.T) {
	for _, year := range []int{3, 6, 8, 11, 14, 17, 19, 22, 5782, 5784, 5787, 5790, 19991, 19994, 19996, 19999} {
		if !hebrew.Leap(year) {
			t.Errorf("Leap(%d) = false", year)
		}
	}
	for _, year := range []int{1, 2, 4, 5, 7, 18, 20, 21, 5781, 5783, 5785, 5786, 5788, 5789, 19995, 19997, 19998, 20000} {
		if hebrew.Leap(year) {
			t.Errorf("Leap(%d) = true", year)
		}
	}
}

// The rule would make some of these leap years: 0, -2, 20002 and 20005 are among them.
func TestLeapBeyondItsRange(t *testing.T) {
	for n := range 3000 {
		for _, year := range []int{-n, 20001 + n, math.MinInt64 + n, math.MaxInt64 - n, math.MinInt32 - n, math.MaxInt32 + n} {
			if hebrew.Leap(year) {
				t.Errorf("Leap(%d) = true", year)
			}
		}
	}
	for _, year := range farYears {
		if hebrew.Leap(year) {
			t.Errorf("Leap(%d) = true", year)
		}
	}
}

// P6.1, the days on which years begin

func TestEachBeginning(t *testing.T) {
	begins := newYears(20000)
	for year := 1; year <= 20000; year++ {
		checkBegins(t, year, begins[year])
	}
}

// elapsed works the chapter's elapsed days out, word for word, for years from 1 on.
func elapsed(year int) int {
	m := (235*year - 234) / 19
	parts := 12084 + 13753*m
	n := 29*m + parts/25920
	if 3*(n+1)%7 < 3 {
		return n + 1
	}
	return n
}

func TestBeginningRule(t *testing.T) {
	delays := map[int]int{}
	for year := 2; year <= 20000; year++ {
		delay := 0
		if elapsed(year+1)-elapsed(year) == 356 {
			delay = 2
		} else if elapsed(year)-elapsed(year-1) == 382 {
			delay = 1
		}
		checkBegins(t, year, -1373427+elapsed(year)+delay)
		delays[delay]++
	}
	if delays[0] == 0 || delays[1] == 0 || delays[2] == 0 {
		t.Errorf("the delays are %v", delays)
	}
}

func TestBeginningsByName(t *testing.T) {
	begins := map[int]int{
		1: -1373427, 2: -1373072, 3: -1372717, 4: -1372334,
		// The years in which the days of layer 1 begin and end, and those next to them.
		3760: -491, 3761: -106, 3762: 249, 13760: 3652002, 13761: 3652356,
		// A delay of 0.
		5781: 737687, 5782: 738040, 5783: 738424, 5784: 738779, 5785: 739162, 5786: 739517, 5787: 739871, 5788: 740256,
		// A delay of 1.
		75: -1346406, 5766: 732223, 19783: 5851883,
		// A delay of 2.
		7: -1371240, 5745: 724546, 5789: 740611, 19989: 5927128,
		19998: 5930404, 19999: 5930759, 20000: 5931143,
	}
	for year, day := range begins {
		checkBegins(t, year, day)
	}
}

func TestNoBeginning(t *testing.T) {
	for _, year := range append([]int{-20000, -5787, -19, -2, -1, 0, 20001, 20002, 20003, 40000}, farYears...) {
		if day, e := hebrew.Begins(year); day != 0 || e != api.ErrRange {
			t.Errorf("Begins(%d) = %d, %v, want 0, ErrRange", year, day, e)
		}
	}
}

// P6.1, lengths of months

// TestEachLength takes the number of days of a year from the days on which it and the next one begin,
// so the months of year 20000 end where year 20001 begins.
func TestEachLength(t *testing.T) {
	begins := newYears(20001)
	years := map[int]int{}
	for year := 1; year <= 20000; year++ {
		days := begins[year+1] - begins[year]
		years[days]++
		for i, month := range order(listedLeap(year)) {
			checkLength(t, year, month, lengths(days)[i])
		}
		if !listedLeap(year) {
			checkLength(t, year, 13, 0)
		}
	}
	for _, days := range []int{353, 354, 355, 383, 384, 385} {
		if years[days] == 0 {
			t.Errorf("no year has %d days", days)
		}
	}
	if len(years) != 6 {
		t.Errorf("the numbers of days are %v", years)
	}
}

// One year of each number of days, and the first and the last ones that are known.
func TestLengthsByName(t *testing.T) {
	for _, year := range []struct{ year, eighth, ninth, twelfth, thirteenth int }{
		{5781, 29, 29, 29, 0},
		{5786, 29, 30, 29, 0},
		{5785, 30, 30, 29, 0},
		{5784, 29, 29, 30, 29},
		{5782, 29, 30, 30, 29},
		{5787, 30, 30, 30, 29},
		{1, 30, 30, 29, 0},
		{2, 30, 30, 29, 0},
		{3, 29, 29, 30, 29},
		{19998, 30, 30, 29, 0},
		{19999, 29, 30, 30, 29},
		{20000, 30, 30, 29, 0},
	} {
		checkLength(t, year.year, 8, year.eighth)
		checkLength(t, year.year, 9, year.ninth)
		checkLength(t, year.year, 12, year.twelfth)
		checkLength(t, year.year, 13, year.thirteenth)
		for _, month := range []int{1, 3, 5, 7, 11} {
			checkLength(t, year.year, month, 30)
		}
		for _, month := range []int{2, 4, 6, 10} {
			checkLength(t, year.year, month, 29)
		}
	}
}

func TestNoLength(t *testing.T) {
	for _, year := range []int{1, 3, 5781, 5782, 5784, 5785, 5786, 5787, 19999, 20000} {
		for _, month := range []int{math.MinInt64, math.MinInt32, -13, -7, -1, 0, 14, 15, 20, 26, math.MaxInt32, math.MaxInt64} {
			checkLength(t, year, month, 0)
		}
	}
	for _, year := range append([]int{-20000, -5787, -19, -2, -1, 0, 20001, 20002, 20003, 40000}, farYears...) {
		for month := -1; month <= 14; month++ {
			checkLength(t, year, month, 0)
		}
		checkLength(t, year, math.MinInt64, 0)
		checkLength(t, year, math.MaxInt64, 0)
	}
}

// P6.1, dates

func TestDates(t *testing.T) {
	days := map[int]api.Date{
		// The first days of layer 1.
		1:   {Year: 3761, Month: 10, Day: 18},
		2:   {Year: 3761, Month: 10, Day: 19},
		12:  {Year: 3761, Month: 10, Day: 29},
		13:  {Year: 3761, Month: 11, Day: 1},
		248: {Year: 3761, Month: 6, Day: 29},
		249: {Year: 3762, Month: 7, Day: 1},
		// A year with a delay of 2 and one with a delay of 1.
		724545: {Year: 5744, Month: 6, Day: 29},
		724546: {Year: 5745, Month: 7, Day: 1},
		732222: {Year: 5765, Month: 6, Day: 29},
		732223: {Year: 5766, Month: 7, Day: 1},
		// 353 days.
		737687: {Year: 5781, Month: 7, Day: 1},
		737716: {Year: 5781, Month: 7, Day: 30},
		737745: {Year: 5781, Month: 8, Day: 29},
		737746: {Year: 5781, Month: 9, Day: 1},
		737774: {Year: 5781, Month: 9, Day: 29},
		737775: {Year: 5781, Month: 10, Day: 1},
		737862: {Year: 5781, Month: 12, Day: 29},
		737863: {Year: 5781, Month: 1, Day: 1},
		738039: {Year: 5781, Month: 6, Day: 29},
		// 384 days.
		738040: {Year: 5782, Month: 7, Day: 1},
		738098: {Year: 5782, Month: 8, Day: 29},
		738099: {Year: 5782, Month: 9, Day: 1},
		738128: {Year: 5782, Month: 9, Day: 30},
		738129: {Year: 5782, Month: 10, Day: 1},
		738217: {Year: 5782, Month: 12, Day: 30},
		738218: {Year: 5782, Month: 13, Day: 1},
		738246: {Year: 5782, Month: 13, Day: 29},
		738247: {Year: 5782, Month: 1, Day: 1},
		738423: {Year: 5782, Month: 6, Day: 29},
		// 383 days.
		738837: {Year: 5784, Month: 8, Day: 29},
		738838: {Year: 5784, Month: 9, Day: 1},
		738866: {Year: 5784, Month: 9, Day: 29},
		738867: {Year: 5784, Month: 10, Day: 1},
		738955: {Year: 5784, Month: 12, Day: 30},
		738956: {Year: 5784, Month: 13, Day: 1},
		738984: {Year: 5784, Month: 13, Day: 29},
		738985: {Year: 5784, Month: 1, Day: 1},
		739161: {Year: 5784, Month: 6, Day: 29},
		// 355 days.
		739162: {Year: 5785, Month: 7, Day: 1},
		739221: {Year: 5785, Month: 8, Day: 30},
		739222: {Year: 5785, Month: 9, Day: 1},
		739251: {Year: 5785, Month: 9, Day: 30},
		739252: {Year: 5785, Month: 10, Day: 1},
		739339: {Year: 5785, Month: 12, Day: 29},
		739340: {Year: 5785, Month: 1, Day: 1},
		739516: {Year: 5785, Month: 6, Day: 29},
		// 354 days.
		739517: {Year: 5786, Month: 7, Day: 1},
		739575: {Year: 5786, Month: 8, Day: 29},
		739576: {Year: 5786, Month: 9, Day: 1},
		739605: {Year: 5786, Month: 9, Day: 30},
		739606: {Year: 5786, Month: 10, Day: 1},
		739693: {Year: 5786, Month: 12, Day: 29},
		739694: {Year: 5786, Month: 1, Day: 1},
		739870: {Year: 5786, Month: 6, Day: 29},
		// 385 days.
		739871: {Year: 5787, Month: 7, Day: 1},
		739930: {Year: 5787, Month: 8, Day: 30},
		739931: {Year: 5787, Month: 9, Day: 1},
		739935: {Year: 5787, Month: 9, Day: 5},
		739960: {Year: 5787, Month: 9, Day: 30},
		739961: {Year: 5787, Month: 10, Day: 1},
		740049: {Year: 5787, Month: 12, Day: 30},
		740050: {Year: 5787, Month: 13, Day: 1},
		740078: {Year: 5787, Month: 13, Day: 29},
		740079: {Year: 5787, Month: 1, Day: 1},
		740255: {Year: 5787, Month: 6, Day: 29},
		740256: {Year: 5788, Month: 7, Day: 1},
		// The last days of layer 1.
		3652001: {Year: 13759, Month: 6, Day: 29},
		3652002: {Year: 13760, Month: 7, Day: 1},
		3652058: {Year: 13760, Month: 8, Day: 27},
		3652059: {Year: 13760, Month: 8, Day: 28},
	}
	for day, d := range days {
		checkPair(t, day, d)
	}
}

func TestDateOfNoDay(t *testing.T) {
	for _, day := range []int{0, -1, -16, -17, -106, -385, -1373427, -1373428, api.LastDay + 1, api.LastDay + 385, 5931143, 5931498, math.MinInt64, math.MinInt64 + 1, math.MinInt64 / 98496, math.MaxInt64 / 98496, math.MaxInt64 - 1, math.MaxInt64} {
		if d, e := hebrew.Hebrew(day); d != (api.Date{}) || e != api.ErrRange {
			t.Errorf("Hebrew(%d) = %v, %v, want no date, ErrRange", day, d, e)
		}
	}
}

func TestNoDate(t *testing.T) {
	checkInvalid(t, api.Date{})
	for _, year := range []int{3762, 5781, 5782, 5784, 5785, 5786, 5787, 13759} {
		for _, month := range []int{math.MinInt64, -12, -7, -1, 0, 14, 15, 26, math.MaxInt64} {
			for _, day := range []int{-30, 0, 1, 29, 30} {
				checkInvalid(t, api.Date{Year: year, Month: month, Day: day})
			}
		}
		for month := 1; month <= 13; month++ {
			for _, day := range []int{math.MinInt64, -29, -1, 0, 31, 60, math.MaxInt64} {
				checkInvalid(t, api.Date{Year: year, Month: month, Day: day})
			}
		}
		for _, month := range []int{2, 4, 6, 10, 13} {
			checkInvalid(t, api.Date{Year: year, Month: month, Day: 30})
		}
	}
	for _, year := range []int{5781, 5785, 5786} {
		checkInvalid(t, api.Date{Year: year, Month: 12, Day: 30}, api.Date{Year: year, Month: 13, Day: 1}, api.Date{Year: year, Month: 13, Day: 29})
	}
	for _, year := range []int{5781, 5782, 5784, 5786} {
		checkInvalid(t, api.Date{Year: year, Month: 8, Day: 30})
	}
	checkInvalid(t, api.Date{Year: 5781, Month: 9, Day: 30}, api.Date{Year: 5784, Month: 9, Day: 30})
}

// All days of these years are before day 1 or after the last day, or the year is not known.
func TestDateWithoutDay(t *testing.T) {
	for _, year := range append([]int{-20000, -3761, -1, 0, 1, 2, 3, 3760, 13761, 13762, 19999, 20000, 20001, 20002, 40000}, farYears...) {
		for month := 1; month <= 13; month++ {
			checkInvalid(t, api.Date{Year: year, Month: month, Day: 1}, api.Date{Year: year, Month: month, Day: 29})
		}
	}
	checkInvalid(t,
		api.Date{Year: 3761, Month: 7, Day: 1}, api.Date{Year: 3761, Month: 9, Day: 30}, api.Date{Year: 3761, Month: 10, Day: 1}, api.Date{Year: 3761, Month: 10, Day: 17},
		api.Date{Year: 13760, Month: 8, Day: 29}, api.Date{Year: 13760, Month: 9, Day: 1}, api.Date{Year: 13760, Month: 1, Day: 1}, api.Date{Year: 13760, Month: 6, Day: 29},
	)
}

// checkCounted checks a date that is counted to be the one of day, which may be beyond layer 1.
func checkCounted(t *testing.T, day int, d api.Date) {
	if day < 1 || day > api.LastDay {
		checkInvalid(t, d)
		return
	}
	checkPair(t, day, d)
}

// TestEachDate counts all dates of the years that are known, from the first day of year 1 on, by the
// lengths of the months alone.
func TestEachDate(t *testing.T) {
	begins := newYears(20001)
	day := firstDay
	for year := 1; year <= 20000 && !t.Failed(); year++ {
		lengths := lengths(begins[year+1] - begins[year])
		for i, month := range order(listedLeap(year)) {
			for n := 1; n <= lengths[i]; n++ {
				checkCounted(t, day, api.Date{Year: year, Month: month, Day: n})
				day++
			}
			checkInvalid(t, api.Date{Year: year, Month: month, Day: lengths[i] + 1})
		}
	}
}

// P6.2

func TestThereAndBack(t *testing.T) {
	for day := 1; day <= api.LastDay; day++ {
		d, e := hebrew.Hebrew(day)
		if got, back := hebrew.FromHebrew(d); got != day || e != api.OK || back != api.OK {
			t.Fatalf("day %d, %v, %v, back: %d, %v", day, d, e, got, back)
		}
	}
}
