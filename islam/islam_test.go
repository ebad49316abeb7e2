package islam_test

import (
	"math"
	"testing"

	"tryst/api"
	"tryst/islam"
)

// The leap years of the 30 years from 1 on, as they are usually listed.
func isLeap(year int) bool {
	// The years of these tests are greater than -30000, and 30000 is divisible by 30.
	switch (year + 30000) % 30 {
	case 2, 5, 7, 10, 13, 16, 18, 21, 24, 26, 29:
		return true
	}
	return false
}

func lengths(year int) []int {
	if isLeap(year) {
		return []int{30, 29, 30, 29, 30, 29, 30, 29, 30, 29, 30, 30}
	}
	return []int{30, 29, 30, 29, 30, 29, 30, 29, 30, 29, 30, 29}
}

func checkPair(t *testing.T, day int, d api.Date) {
	if got, e := islam.Islamic(day); got != d || e != api.OK {
		t.Errorf("Islamic(%d) = %v, %v, want %v", day, got, e, d)
	}
	if got, e := islam.FromIslamic(d); got != day || e != api.OK {
		t.Errorf("FromIslamic(%v) = %d, %v, want %d", d, got, e, day)
	}
}

func checkInvalid(t *testing.T, dates ...api.Date) {
	for _, d := range dates {
		if day, e := islam.FromIslamic(d); day != 0 || e != api.ErrRange {
			t.Errorf("FromIslamic(%v) = %d, %v, want 0, ErrRange", d, day, e)
		}
	}
}

// P4.1, leap years

func TestLeapYears(t *testing.T) {
	for year := -10000; year <= 20000; year++ {
		if got := islam.Leap(year); got != isLeap(year) {
			t.Errorf("Leap(%d) = %v", year, got)
		}
	}
}

func TestLeapYearsByName(t *testing.T) {
	for _, year := range []int{-9999, -9996, -28, -9, -6, -4, -1, 2, 5, 7, 26, 29, 1442, 1445, 1447, 1450, 9997, 19996, 19998} {
		if !islam.Leap(year) {
			t.Errorf("Leap(%d) = false", year)
		}
	}
	for _, year := range []int{-10000, -9998, -9997, -30, -5, -3, -2, 0, 1, 3, 4, 6, 8, 30, 1446, 1448, 1449, 19997, 19999, 20000} {
		if islam.Leap(year) {
			t.Errorf("Leap(%d) = true", year)
		}
	}
}

// The rule would make some of these leap years: -10002, -10005, 20001 and 20004 are among them.
func TestLeapBeyondItsRange(t *testing.T) {
	for n := 1; n <= 3000; n++ {
		if islam.Leap(-10000 - n) {
			t.Errorf("Leap(%d) = true", -10000-n)
		}
		if islam.Leap(20000 + n) {
			t.Errorf("Leap(%d) = true", 20000+n)
		}
	}
	for n := range 1000 {
		for _, year := range []int{math.MinInt64 + n, math.MaxInt64 - n, math.MinInt32 - n, math.MaxInt32 + n, math.MinInt64/11 + n - 500, math.MaxInt64/11 + n - 500} {
			if islam.Leap(year) {
				t.Errorf("Leap(%d) = true", year)
			}
		}
	}
}

// P4.1, dates

func TestDates(t *testing.T) {
	days := map[int]api.Date{
		// The first days of layer 1.
		1: {Year: -640, Month: 5, Day: 18},
		2: {Year: -640, Month: 5, Day: 19},
		// Leap years before year 1.
		225597: {Year: -4, Month: 12, Day: 30},
		225598: {Year: -3, Month: 1, Day: 1},
		226659: {Year: -1, Month: 12, Day: 29},
		226660: {Year: -1, Month: 12, Day: 30},
		226661: {Year: 0, Month: 1, Day: 1},
		227014: {Year: 0, Month: 12, Day: 29},
		227015: {Year: 1, Month: 1, Day: 1},
		227044: {Year: 1, Month: 1, Day: 30},
		227045: {Year: 1, Month: 2, Day: 1},
		227073: {Year: 1, Month: 2, Day: 29},
		227074: {Year: 1, Month: 3, Day: 1},
		227340: {Year: 1, Month: 12, Day: 1},
		227368: {Year: 1, Month: 12, Day: 29},
		227369: {Year: 2, Month: 1, Day: 1},
		227722: {Year: 2, Month: 12, Day: 29},
		227723: {Year: 2, Month: 12, Day: 30},
		227724: {Year: 3, Month: 1, Day: 1},
		237291: {Year: 29, Month: 12, Day: 30},
		237292: {Year: 30, Month: 1, Day: 1},
		237645: {Year: 30, Month: 12, Day: 29},
		237646: {Year: 31, Month: 1, Day: 1},
		739783: {Year: 1447, Month: 12, Day: 30},
		739784: {Year: 1448, Month: 1, Day: 1},
		739935: {Year: 1448, Month: 6, Day: 4},
		740137: {Year: 1448, Month: 12, Day: 29},
		740138: {Year: 1449, Month: 1, Day: 1},
		// The last days of layer 1.
		3652058: {Year: 9666, Month: 4, Day: 1},
		3652059: {Year: 9666, Month: 4, Day: 2},
	}
	for day, d := range days {
		checkPair(t, day, d)
	}
}

func TestDateOfNoDay(t *testing.T) {
	for _, day := range []int{0, -1, -2, -354, -355, -227015, api.LastDay + 1, api.LastDay + 355, math.MinInt64, math.MinInt64 + 1, math.MinInt64 / 30, math.MaxInt64 / 30, math.MaxInt64 - 1, math.MaxInt64} {
		if d, e := islam.Islamic(day); d != (api.Date{}) || e != api.ErrRange {
			t.Errorf("Islamic(%d) = %v, %v, want no date, ErrRange", day, d, e)
		}
	}
}

func TestNoDate(t *testing.T) {
	checkInvalid(t, api.Date{})
	for _, year := range []int{-640, -100, -1, 0, 1, 2, 1447, 1448, 9666} {
		for _, month := range []int{math.MinInt64, -11, -1, 0, 13, 14, 25, math.MaxInt64} {
			for _, day := range []int{-30, 0, 1, 29, 30} {
				checkInvalid(t, api.Date{Year: year, Month: month, Day: day})
			}
		}
		for i, length := range lengths(year) {
			for _, day := range []int{math.MinInt64, -29, -1, 0, length + 1, 31, 32, 60, math.MaxInt64} {
				checkInvalid(t, api.Date{Year: year, Month: i + 1, Day: day})
			}
		}
	}
	checkInvalid(t,
		api.Date{Year: 1448, Month: 6, Day: 30}, api.Date{Year: 1448, Month: 12, Day: 30}, api.Date{Year: 1, Month: 12, Day: 30},
		api.Date{Year: 0, Month: 12, Day: 30}, api.Date{Year: -2, Month: 12, Day: 30}, api.Date{Year: 1447, Month: 12, Day: 31},
	)
}

// For the last four of these years, the number of days before the year is a multiple of 2^64 plus a
// few days, so arithmetic that wraps round would find a day.
func TestDateWithoutDay(t *testing.T) {
	for _, year := range []int{
		math.MinInt64, math.MinInt64 + 1, math.MinInt64 / 354, math.MinInt32, -20000, -10001, -10000, -9999, -1000, -642, -641,
		9667, 9668, 9999, 10000, 19998, 19999, 20000, 20001, math.MaxInt32, math.MaxInt64 / 354, math.MaxInt64 - 1, math.MaxInt64,
		7999199527777352362, -2734650424246660929, -3300320499312912065, -7322477658833059713,
	} {
		for month := 1; month <= 12; month++ {
			checkInvalid(t, api.Date{Year: year, Month: month, Day: 1}, api.Date{Year: year, Month: month, Day: 29})
		}
	}
	checkInvalid(t,
		api.Date{Year: -640, Month: 5, Day: 17}, api.Date{Year: -640, Month: 4, Day: 29}, api.Date{Year: -640, Month: 1, Day: 1},
		api.Date{Year: 9666, Month: 4, Day: 3}, api.Date{Year: 9666, Month: 5, Day: 1}, api.Date{Year: 9666, Month: 12, Day: 29},
	)
}

// checkCounted checks a date that is counted to be the one of day, which may be beyond layer 1.
func checkCounted(t *testing.T, day int, d api.Date) {
	if day < 1 || day > api.LastDay {
		checkInvalid(t, d)
		return
	}
	checkPair(t, day, d)
}

// TestEachDate counts all dates by the lengths of the months alone, forwards from the first day of
// year 1, and TestEachEarlierDate backwards from the day before it, so they do not share the
// arithmetic of the package.
func TestEachDate(t *testing.T) {
	day := 227015
	for year := 1; year <= 10000; year++ {
		for i, length := range lengths(year) {
			for n := 1; n <= length; n++ {
				checkCounted(t, day, api.Date{Year: year, Month: i + 1, Day: n})
				day++
			}
			checkInvalid(t, api.Date{Year: year, Month: i + 1, Day: length + 1})
		}
		if t.Failed() {
			t.FailNow()
		}
	}
}

func TestEachEarlierDate(t *testing.T) {
	day := 227014
	for year := 0; year >= -1000; year-- {
		lengths := lengths(year)
		for month := 12; month >= 1; month-- {
			for n := lengths[month-1]; n >= 1; n-- {
				checkCounted(t, day, api.Date{Year: year, Month: month, Day: n})
				day--
			}
			checkInvalid(t, api.Date{Year: year, Month: month, Day: lengths[month-1] + 1})
		}
		if t.Failed() {
			t.FailNow()
		}
	}
}

// P4.2

func TestThereAndBack(t *testing.T) {
	for day := 1; day <= api.LastDay; day++ {
		d, e := islam.Islamic(day)
		if got, back := islam.FromIslamic(d); got != day || e != api.OK || back != api.OK {
			t.Fatalf("day %d, %v, %v, back: %d, %v", day, d, e, got, back)
		}
	}
}
