package persian_test

import (
	"math"
	"testing"

	"tryst/api"
	"tryst/persian"
)

// From year 475 on, the leap years are usually listed like this: 2820 years are 21 times 128 years
// and then 132; 128 years are 29 and three times 33, and 132 are 29, 33, 33 and 37. In each of these
// pieces the years 5, 9, 13 and so on are leap years.
func listedLeaps() []bool {
	var pieces []int
	for range 21 {
		pieces = append(pieces, 29, 33, 33, 33)
	}
	var leaps []bool
	for _, piece := range append(pieces, 29, 33, 33, 37) {
		for n := 1; n <= piece; n++ {
			leaps = append(leaps, n > 1 && n%4 == 1)
		}
	}
	return leaps
}

// leapsFrom returns the leap years that are listed for the years from first to last.
func leapsFrom(first, last int) map[int]bool {
	listed := listedLeaps()
	leaps := map[int]bool{}
	for year := first; year <= last; year++ {
		n := year - 475
		if year < 0 {
			n++
		}
		// The years of these tests are greater than -20000, and 28200 is divisible by 2820.
		leaps[year] = year != 0 && listed[(n+28200)%2820]
	}
	return leaps
}

func lengths(leap bool) []int {
	if leap {
		return []int{31, 31, 31, 31, 31, 31, 30, 30, 30, 30, 30, 30}
	}
	return []int{31, 31, 31, 31, 31, 31, 30, 30, 30, 30, 30, 29}
}

func checkPair(t *testing.T, day int, d api.Date) {
	if got, e := persian.Persian(day); got != d || e != api.OK {
		t.Errorf("Persian(%d) = %v, %v, want %v", day, got, e, d)
	}
	if got, e := persian.FromPersian(d); got != day || e != api.OK {
		t.Errorf("FromPersian(%v) = %d, %v, want %d", d, got, e, day)
	}
}

func checkInvalid(t *testing.T, dates ...api.Date) {
	for _, d := range dates {
		if day, e := persian.FromPersian(d); day != 0 || e != api.ErrRange {
			t.Errorf("FromPersian(%v) = %d, %v, want 0, ErrRange", d, day, e)
		}
	}
}

// P5.1, leap years

func TestLeapYears(t *testing.T) {
	leaps := leapsFrom(-10000, 20000)
	for year := -10000; year <= 20000; year++ {
		if got := persian.Leap(year); got != leaps[year] {
			t.Errorf("Leap(%d) = %v", year, got)
		}
	}
}

// TestLeapRule works the rule out for each year, word for word.
func TestLeapRule(t *testing.T) {
	for year := -10000; year <= 20000; year++ {
		z := year - 474
		if year < 0 {
			z = year - 473
		}
		c := 474 + (z%2820+2820)%2820
		want := year != 0 && 31*(c+38)%128 < 31
		if got := persian.Leap(year); got != want {
			t.Errorf("Leap(%d) = %v", year, got)
		}
	}
}

func TestLeapYearsByName(t *testing.T) {
	for _, year := range []int{-9997, -9993, -2347, -2342, -38, -14, -9, -5, -1, 4, 8, 12, 16, 20, 25, 29, 466, 470, 474, 479, 483, 1395, 1399, 1404, 1408, 3290, 3294, 3299, 19983, 19988, 19996, 20000} {
		if !persian.Leap(year) {
			t.Errorf("Leap(%d) = false", year)
		}
	}
	for _, year := range []int{-10000, -9999, -9998, -9996, -2346, -2343, -13, -10, -4, -3, -2, 0, 1, 2, 3, 5, 24, 471, 473, 475, 478, 1400, 1403, 1405, 3291, 3295, 3298, 19984, 19987, 19997, 19998, 19999} {
		if persian.Leap(year) {
			t.Errorf("Leap(%d) = true", year)
		}
	}
}

// The rule would make some of these leap years: -10001, -10005, 20004 and 20008 are among them.
func TestLeapBeyondItsRange(t *testing.T) {
	for n := 1; n <= 3000; n++ {
		if persian.Leap(-10000 - n) {
			t.Errorf("Leap(%d) = true", -10000-n)
		}
		if persian.Leap(20000 + n) {
			t.Errorf("Leap(%d) = true", 20000+n)
		}
	}
	for n := range 3000 {
		for _, year := range []int{math.MinInt64 + n, math.MaxInt64 - n, math.MinInt32 - n, math.MaxInt32 + n} {
			if persian.Leap(year) {
				t.Errorf("Leap(%d) = true", year)
			}
		}
	}
}

// P5.1, dates

func TestDates(t *testing.T) {
	days := map[int]api.Date{
		// The first days of layer 1.
		1:  {Year: -622, Month: 10, Day: 11},
		2:  {Year: -622, Month: 10, Day: 12},
		79: {Year: -622, Month: 12, Day: 29},
		80: {Year: -621, Month: 1, Day: 1},
		// The years before year 1; -1 is a leap year.
		226164: {Year: -3, Month: 12, Day: 29},
		226165: {Year: -2, Month: 1, Day: 1},
		226529: {Year: -2, Month: 12, Day: 29},
		226530: {Year: -1, Month: 1, Day: 1},
		226895: {Year: -1, Month: 12, Day: 30},
		226896: {Year: 1, Month: 1, Day: 1},
		226926: {Year: 1, Month: 1, Day: 31},
		226927: {Year: 1, Month: 2, Day: 1},
		227081: {Year: 1, Month: 6, Day: 31},
		227082: {Year: 1, Month: 7, Day: 1},
		227111: {Year: 1, Month: 7, Day: 30},
		227112: {Year: 1, Month: 8, Day: 1},
		227231: {Year: 1, Month: 11, Day: 30},
		227232: {Year: 1, Month: 12, Day: 1},
		227260: {Year: 1, Month: 12, Day: 29},
		227261: {Year: 2, Month: 1, Day: 1},
		228356: {Year: 4, Month: 12, Day: 30},
		228357: {Year: 5, Month: 1, Day: 1},
		// The remainder of z is 0 in the years 474 and 3294.
		399654:  {Year: 473, Month: 12, Day: 29},
		399655:  {Year: 474, Month: 1, Day: 1},
		400020:  {Year: 474, Month: 12, Day: 30},
		400021:  {Year: 475, Month: 1, Day: 1},
		1429637: {Year: 3293, Month: 12, Day: 29},
		1429638: {Year: 3294, Month: 1, Day: 1},
		1430003: {Year: 3294, Month: 12, Day: 30},
		1430004: {Year: 3295, Month: 1, Day: 1},
		739695:  {Year: 1404, Month: 12, Day: 30},
		739696:  {Year: 1405, Month: 1, Day: 1},
		739935:  {Year: 1405, Month: 8, Day: 24},
		740060:  {Year: 1405, Month: 12, Day: 29},
		740061:  {Year: 1406, Month: 1, Day: 1},
		// The last days of layer 1.
		3652058: {Year: 9378, Month: 10, Day: 11},
		3652059: {Year: 9378, Month: 10, Day: 12},
	}
	for day, d := range days {
		checkPair(t, day, d)
	}
}

func TestDateOfNoDay(t *testing.T) {
	for _, day := range []int{0, -1, -2, -365, -366, -226896, -1029983, api.LastDay + 1, api.LastDay + 366, math.MinInt64, math.MinInt64 + 1, math.MinInt64 / 128, math.MaxInt64 / 128, math.MaxInt64 - 1, math.MaxInt64} {
		if d, e := persian.Persian(day); d != (api.Date{}) || e != api.ErrRange {
			t.Errorf("Persian(%d) = %v, %v, want no date, ErrRange", day, d, e)
		}
	}
}

func TestNoDate(t *testing.T) {
	checkInvalid(t, api.Date{})
	for _, year := range []int{-622, -100, -2, -1, 1, 2, 4, 474, 1404, 1405, 9378} {
		for _, month := range []int{math.MinInt64, -11, -1, 0, 13, 14, 25, math.MaxInt64} {
			for _, day := range []int{-30, 0, 1, 29, 30, 31} {
				checkInvalid(t, api.Date{Year: year, Month: month, Day: day})
			}
		}
		for month := 1; month <= 12; month++ {
			for _, day := range []int{math.MinInt64, -29, -1, 0, 32, 60, math.MaxInt64} {
				checkInvalid(t, api.Date{Year: year, Month: month, Day: day})
			}
		}
	}
	checkInvalid(t,
		api.Date{Year: 1405, Month: 6, Day: 32}, api.Date{Year: 1405, Month: 7, Day: 31}, api.Date{Year: 1405, Month: 11, Day: 31},
		api.Date{Year: 1405, Month: 12, Day: 30}, api.Date{Year: 1404, Month: 12, Day: 31}, api.Date{Year: 1, Month: 12, Day: 30},
		api.Date{Year: -1, Month: 12, Day: 31}, api.Date{Year: -2, Month: 12, Day: 30},
	)
}

func TestNoYearZero(t *testing.T) {
	for month := 1; month <= 12; month++ {
		for day := 1; day <= 31; day++ {
			checkInvalid(t, api.Date{Year: 0, Month: month, Day: day})
		}
	}
}

// For the last six of these years, the number of days before the year is a multiple of 2^64 plus that
// of a year near year 1000, so arithmetic that wraps round would find a day.
func TestDateWithoutDay(t *testing.T) {
	for _, year := range []int{
		math.MinInt64, math.MinInt64 + 1, math.MinInt64 / 365, math.MinInt32, -20000, -10001, -10000, -9999, -1000, -624, -623,
		9379, 9380, 9999, 10000, 19999, 20000, 20001, math.MaxInt32, math.MaxInt64 / 365, math.MaxInt64 - 1, math.MaxInt64,
		50505511535493474, -50505511535492526, 5050551153549229974, -5050551153549223386, 9192003099459596754, -9192003099459590166,
	} {
		for month := 1; month <= 12; month++ {
			checkInvalid(t, api.Date{Year: year, Month: month, Day: 1}, api.Date{Year: year, Month: month, Day: 29})
		}
	}
	checkInvalid(t,
		api.Date{Year: -622, Month: 10, Day: 10}, api.Date{Year: -622, Month: 9, Day: 30}, api.Date{Year: -622, Month: 1, Day: 1},
		api.Date{Year: 9378, Month: 10, Day: 13}, api.Date{Year: 9378, Month: 11, Day: 1}, api.Date{Year: 9378, Month: 12, Day: 29},
	)
}

// checkCounted checks a date that is counted to be the one of day, which may be beyond layer 1.
func checkCounted(t *testing.T, day int, d api.Date) {
	if day < 1 || day > api.LastDay {
		checkInvalid(t, d)
		return
	}
	checkPair(t, day, d)
}

// TestEachDate counts all dates by the lengths of the months alone, forwards from the first day of
// year 1, and TestEachEarlierDate backwards from the day before it, so they do not share the
// arithmetic of the package.
func TestEachDate(t *testing.T) {
	leaps := leapsFrom(1, 9500)
	day := 226896
	for year := 1; year <= 9500 && !t.Failed(); year++ {
		for i, length := range lengths(leaps[year]) {
			for n := 1; n <= length; n++ {
				checkCounted(t, day, api.Date{Year: year, Month: i + 1, Day: n})
				day++
			}
			checkInvalid(t, api.Date{Year: year, Month: i + 1, Day: length + 1})
		}
	}
}

func TestEachEarlierDate(t *testing.T) {
	leaps := leapsFrom(-1000, -1)
	day := 226895
	for year := -1; year >= -1000 && !t.Failed(); year-- {
		lengths := lengths(leaps[year])
		for month := 12; month >= 1; month-- {
			for n := lengths[month-1]; n >= 1; n-- {
				checkCounted(t, day, api.Date{Year: year, Month: month, Day: n})
				day--
			}
			checkInvalid(t, api.Date{Year: year, Month: month, Day: lengths[month-1] + 1})
		}
	}
}

// P5.2

func TestThereAndBack(t *testing.T) {
	for day := 1; day <= api.LastDay; day++ {
		d, e := persian.Persian(day)
		if got, back := persian.FromPersian(d); got != day || e != api.OK || back != api.OK {
			t.Fatalf("day %d, %v, %v, back: %d, %v", day, d, e, got, back)
		}
	}
}
