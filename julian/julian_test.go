package julian_test

import (
	"math"
	"testing"

	"tryst/api"
	"tryst/julian"
)

type toDate func(day int) (api.Date, api.Errno)
type toDay func(d api.Date) (int, api.Errno)

func checkPair(t *testing.T, date toDate, from toDay, day int, d api.Date) {
	if got, e := date(day); got != d || e != api.OK {
		t.Errorf("the date of day %d is %v, %v, want %v", day, got, e, d)
	}
	if got, e := from(d); got != day || e != api.OK {
		t.Errorf("the day of date %v is %d, %v, want %d", d, got, e, day)
	}
}

func checkInvalid(t *testing.T, from toDay, dates []api.Date) {
	for _, d := range dates {
		if day, e := from(d); day != 0 || e != api.ErrRange {
			t.Errorf("the day of date %v is %d, %v, want 0, ErrRange", d, day, e)
		}
	}
}

func checkNotDays(t *testing.T, date toDate) {
	for _, day := range []int{0, -1, -2, -365, api.LastDay + 1, api.LastDay + 366, math.MinInt64, math.MinInt64 + 1, math.MaxInt64 - 1, math.MaxInt64} {
		if d, e := date(day); d != (api.Date{}) || e != api.ErrRange {
			t.Errorf("the date of day %d is %v, %v, want no date, ErrRange", day, d, e)
		}
	}
}

// farYears are years without a day of layer 1. For the last five of them, the number of days before
// the year is a multiple of 2^64 plus a few days, so arithmetic that wraps round would find a day.
func farYears() []int {
	return []int{
		math.MinInt64, math.MinInt64 + 1, math.MinInt64 / 365, math.MinInt32, -20000, -10000, -9999, -9998,
		10000, 10001, 20000, math.MaxInt32, math.MaxInt64 / 365, math.MaxInt64 - 1, math.MaxInt64,
		-2323203907982585555, 7222133887858907273, -4646407815965171111, 4898929979876321717, 2575726071893736161,
	}
}

// datesOfFarYears has dates of these years at the beginning, in the middle and at the end.
func datesOfFarYears() []api.Date {
	var dates []api.Date
	for _, year := range farYears() {
		for _, d := range []api.Date{{Month: 1, Day: 1}, {Month: 1, Day: 3}, {Month: 2, Day: 28}, {Month: 12, Day: 30}, {Month: 13, Day: 5}} {
			dates = append(dates, api.Date{Year: year, Month: d.Month, Day: d.Day})
		}
	}
	return dates
}

// badParts has dates with a month or a day that no month of that year has, in either calendar.
func badParts(year int) []api.Date {
	return []api.Date{
		{Year: year, Month: 0, Day: 1}, {Year: year, Month: -1, Day: 1}, {Year: year, Month: 14, Day: 1},
		{Year: year, Month: 0, Day: 0}, {Year: year, Month: 14, Day: 0}, {Year: year, Month: 15, Day: -30},
		{Year: year, Month: math.MinInt64, Day: 1}, {Year: year, Month: math.MaxInt64, Day: 1},
		{Year: year, Month: 5, Day: 0}, {Year: year, Month: 5, Day: -1}, {Year: year, Month: 5, Day: 32},
		{Year: year, Month: 5, Day: math.MinInt64}, {Year: year, Month: 5, Day: math.MaxInt64},
		{Year: year, Month: 12, Day: 0}, {Year: year, Month: 13, Day: 0}, {Year: year, Month: 13, Day: 7},
	}
}

// P2.1, Julian dates

func TestJulianDates(t *testing.T) {
	days := map[int]api.Date{
		1:      {Year: 1, Month: 1, Day: 3},
		2:      {Year: 1, Month: 1, Day: 4},
		29:     {Year: 1, Month: 1, Day: 31},
		30:     {Year: 1, Month: 2, Day: 1},
		363:    {Year: 1, Month: 12, Day: 31},
		364:    {Year: 2, Month: 1, Day: 1},
		1152:   {Year: 4, Month: 2, Day: 28},
		1153:   {Year: 4, Month: 2, Day: 29},
		1154:   {Year: 4, Month: 3, Day: 1},
		1459:   {Year: 4, Month: 12, Day: 31},
		1460:   {Year: 5, Month: 1, Day: 1},
		577735: {Year: 1582, Month: 10, Day: 4},
		577736: {Year: 1582, Month: 10, Day: 5},
		// A leap year here, but not in the Gregorian calendar: the days of 1900-03-12, 13 and 14.
		693666: {Year: 1900, Month: 2, Day: 28},
		693667: {Year: 1900, Month: 2, Day: 29},
		693668: {Year: 1900, Month: 3, Day: 1},
		739935: {Year: 2026, Month: 11, Day: 2},
		// The Gregorian calendar is 73 days ahead of the Julian one at its end.
		3652058: {Year: 9999, Month: 10, Day: 18},
		3652059: {Year: 9999, Month: 10, Day: 19},
	}
	for day, d := range days {
		checkPair(t, julian.Julian, julian.FromJulian, day, d)
	}
}

func TestJulianDateOfNoDay(t *testing.T) {
	checkNotDays(t, julian.Julian)
}

func TestNoJulianDate(t *testing.T) {
	checkInvalid(t, julian.FromJulian, badParts(2024))
	checkInvalid(t, julian.FromJulian, badParts(2026))
	checkInvalid(t, julian.FromJulian, []api.Date{
		{},
		{Year: 2026, Month: 13, Day: 1}, {Year: 2026, Month: 13, Day: 5}, {Year: 2026, Month: 1, Day: 32},
		{Year: 2026, Month: 2, Day: 29}, {Year: 2025, Month: 2, Day: 29}, {Year: 2027, Month: 2, Day: 29},
		{Year: 2024, Month: 2, Day: 30}, {Year: 1900, Month: 2, Day: 30}, {Year: 2000, Month: 2, Day: 30},
		{Year: 2026, Month: 4, Day: 31}, {Year: 2026, Month: 6, Day: 31}, {Year: 2026, Month: 9, Day: 31}, {Year: 2026, Month: 11, Day: 31},
	})
}

func TestJulianDateWithoutDay(t *testing.T) {
	checkInvalid(t, julian.FromJulian, datesOfFarYears())
	checkInvalid(t, julian.FromJulian, []api.Date{
		{Year: 1, Month: 1, Day: 1}, {Year: 1, Month: 1, Day: 2},
		{Year: 0, Month: 12, Day: 31}, {Year: 0, Month: 5, Day: 1}, {Year: 0, Month: 2, Day: 29},
		{Year: -1, Month: 12, Day: 31}, {Year: -4, Month: 2, Day: 29}, {Year: -2026, Month: 11, Day: 2},
		{Year: 9999, Month: 10, Day: 20}, {Year: 9999, Month: 10, Day: 31}, {Year: 9999, Month: 11, Day: 1}, {Year: 9999, Month: 12, Day: 31},
	})
}

func julianLengths(year int) []int {
	if year%4 == 0 {
		return []int{31, 29, 31, 30, 31, 30, 31, 31, 30, 31, 30, 31}
	}
	return []int{31, 28, 31, 30, 31, 30, 31, 31, 30, 31, 30, 31}
}

// TestEachJulianDate counts all dates by the lengths of the months alone, so it does not share the
// arithmetic of the package.
func TestEachJulianDate(t *testing.T) {
	day := -1
	for year := 1; day <= api.LastDay; year++ {
		for i, length := range julianLengths(year) {
			for n := 1; n <= length; n++ {
				checkWalk(t, julian.Julian, julian.FromJulian, day, api.Date{Year: year, Month: i + 1, Day: n})
				day++
			}
			checkInvalid(t, julian.FromJulian, []api.Date{{Year: year, Month: i + 1, Day: length + 1}})
		}
		if t.Failed() {
			t.FailNow()
		}
	}
}

// checkWalk checks a date that is counted to be the one of day, which may be beyond layer 1.
func checkWalk(t *testing.T, date toDate, from toDay, day int, d api.Date) {
	if day < 1 || day > api.LastDay {
		checkInvalid(t, from, []api.Date{d})
		return
	}
	checkPair(t, date, from, day, d)
}

// P2.1, Coptic dates

func TestCopticDates(t *testing.T) {
	days := map[int]api.Date{
		1:   {Year: -283, Month: 5, Day: 8},
		2:   {Year: -283, Month: 5, Day: 9},
		969: {Year: -281, Month: 13, Day: 6},
		970: {Year: -280, Month: 1, Day: 1},
		// -1 and -5 leave the remainder 3 when divided by 4.
		101778: {Year: -5, Month: 13, Day: 6},
		101779: {Year: -4, Month: 1, Day: 1},
		103238: {Year: -1, Month: 13, Day: 5},
		103239: {Year: -1, Month: 13, Day: 6},
		103240: {Year: 0, Month: 1, Day: 1},
		103604: {Year: 0, Month: 13, Day: 5},
		103605: {Year: 1, Month: 1, Day: 1},
		103634: {Year: 1, Month: 1, Day: 30},
		103635: {Year: 1, Month: 2, Day: 1},
		103964: {Year: 1, Month: 12, Day: 30},
		103965: {Year: 1, Month: 13, Day: 1},
		103969: {Year: 1, Month: 13, Day: 5},
		103970: {Year: 2, Month: 1, Day: 1},
		104334: {Year: 2, Month: 13, Day: 5},
		104335: {Year: 3, Month: 1, Day: 1},
		104699: {Year: 3, Month: 13, Day: 5},
		104700: {Year: 3, Month: 13, Day: 6},
		104701: {Year: 4, Month: 1, Day: 1},
		105065: {Year: 4, Month: 13, Day: 5},
		105066: {Year: 5, Month: 1, Day: 1},
		739935: {Year: 1743, Month: 3, Day: 6},
		740235: {Year: 1743, Month: 13, Day: 6},
		740236: {Year: 1744, Month: 1, Day: 1},
		// The last days of layer 1.
		3652058: {Year: 9716, Month: 2, Day: 20},
		3652059: {Year: 9716, Month: 2, Day: 21},
	}
	for day, d := range days {
		checkPair(t, julian.Coptic, julian.FromCoptic, day, d)
	}
}

func TestCopticDateOfNoDay(t *testing.T) {
	checkNotDays(t, julian.Coptic)
}

func TestNoCopticDate(t *testing.T) {
	for _, year := range []int{-100, -1, 0, 1, 1742, 1743, 1744} {
		checkInvalid(t, julian.FromCoptic, badParts(year))
		for month := 1; month <= 12; month++ {
			checkInvalid(t, julian.FromCoptic, []api.Date{{Year: year, Month: month, Day: 31}})
		}
	}
	checkInvalid(t, julian.FromCoptic, []api.Date{
		{},
		{Year: 1742, Month: 13, Day: 6}, {Year: 1744, Month: 13, Day: 6}, {Year: 1745, Month: 13, Day: 6},
		{Year: 1, Month: 13, Day: 6}, {Year: 2, Month: 13, Day: 6}, {Year: 4, Month: 13, Day: 6},
		{Year: 0, Month: 13, Day: 6}, {Year: -2, Month: 13, Day: 6}, {Year: -3, Month: 13, Day: 6}, {Year: -4, Month: 13, Day: 6},
	})
}

func TestCopticDateWithoutDay(t *testing.T) {
	checkInvalid(t, julian.FromCoptic, datesOfFarYears())
	checkInvalid(t, julian.FromCoptic, []api.Date{
		{Year: -283, Month: 5, Day: 7}, {Year: -283, Month: 1, Day: 1}, {Year: -284, Month: 13, Day: 5}, {Year: -284, Month: 1, Day: 1},
		{Year: 9716, Month: 2, Day: 22}, {Year: 9716, Month: 13, Day: 5}, {Year: 9717, Month: 1, Day: 1}, {Year: 9719, Month: 13, Day: 6},
	})
}

func copticLengths(year int) []int {
	last := 5
	// The years of layer 1 are greater than -400, and 400 is divisible by 4.
	if (year+400)%4 == 3 {
		last = 6
	}
	return []int{30, 30, 30, 30, 30, 30, 30, 30, 30, 30, 30, 30, last}
}

// TestEachCopticDate counts forwards from the first day of year 1, and TestEachEarlierCopticDate
// backwards from the day before it.
func TestEachCopticDate(t *testing.T) {
	day := 103605
	for year := 1; day <= api.LastDay; year++ {
		for i, length := range copticLengths(year) {
			for n := 1; n <= length; n++ {
				checkWalk(t, julian.Coptic, julian.FromCoptic, day, api.Date{Year: year, Month: i + 1, Day: n})
				day++
			}
			checkInvalid(t, julian.FromCoptic, []api.Date{{Year: year, Month: i + 1, Day: length + 1}})
		}
		if t.Failed() {
			t.FailNow()
		}
	}
}

func TestEachEarlierCopticDate(t *testing.T) {
	day := 103604
	for year := 0; day >= 1; year-- {
		lengths := copticLengths(year)
		for month := 13; month >= 1; month-- {
			for n := lengths[month-1]; n >= 1; n-- {
				checkWalk(t, julian.Coptic, julian.FromCoptic, day, api.Date{Year: year, Month: month, Day: n})
				day--
			}
			checkInvalid(t, julian.FromCoptic, []api.Date{{Year: year, Month: month, Day: lengths[month-1] + 1}})
		}
		if t.Failed() {
			t.FailNow()
		}
	}
}

// P2.2

func TestThereAndBack(t *testing.T) {
	for day := 1; day <= api.LastDay; day++ {
		j, je := julian.Julian(day)
		if got, e := julian.FromJulian(j); got != day || je != api.OK || e != api.OK {
			t.Fatalf("Julian: day %d, %v, %v, back: %d, %v", day, j, je, got, e)
		}
		c, ce := julian.Coptic(day)
		if got, e := julian.FromCoptic(c); got != day || ce != api.OK || e != api.OK {
			t.Fatalf("Coptic: day %d, %v, %v, back: %d, %v", day, c, ce, got, e)
		}
	}
}
