package iso_test

import (
	"math"
	"testing"

	"tryst/api"
	"tryst/iso"
)

// firsts has, by the start from Sunday on, the day on which week 1 of a year begins.
var firsts = map[int][7]int{
	0:     {-364, -363, -362, -368, -367, -366, -365},
	1:     {0, 1, 2, 3, 4, -2, -1},
	2:     {364, 365, 366, 367, 368, 369, 363},
	2025:  {739249, 739250, 739251, 739252, 739253, 739254, 739255},
	2026:  {739620, 739614, 739615, 739616, 739617, 739618, 739619},
	2027:  {739984, 739985, 739979, 739980, 739981, 739982, 739983},
	9999:  {3651697, 3651698, 3651692, 3651693, 3651694, 3651695, 3651696},
	10000: {3652061, 3652062, 3652063, 3652057, 3652058, 3652059, 3652060},
}

func notDays() []int {
	return []int{0, -1, -6, -7, -365, -366, api.LastDay + 1, api.LastDay + 2, api.LastDay + 366, math.MinInt64, math.MinInt64 + 1, math.MinInt32, math.MaxInt32, math.MaxInt64 - 1, math.MaxInt64}
}

func notStarts() []int {
	return []int{-1, 7, -2, -6, -7, 8, 13, 14, math.MinInt64, math.MinInt64 + 1, math.MinInt32, math.MaxInt32, math.MaxInt64 - 1, math.MaxInt64}
}

// notYears are years outside all ranges. The last five of them are those in which arithmetic that
// wraps round could find a day.
func notYears() []int {
	return []int{
		-1, -2, -400, 10001, 10002, 10400, math.MinInt64, math.MinInt64 + 1, math.MinInt64 / 365, math.MinInt32,
		math.MaxInt32, math.MaxInt64 / 365, math.MaxInt64 - 1, math.MaxInt64,
		-2323203907982585555, 7222133887858907273, 4898929979876321717, 1 << 62, -1 << 62,
	}
}

func checkWeek(t *testing.T, day, start, year, week int) {
	if y, n, e := iso.Week(day, start); y != year || n != week || e != api.OK {
		t.Errorf("Week(%d, %d) is %d, %d, %v, want %d, %d", day, start, y, n, e, year, week)
	}
}

func checkNoWeek(t *testing.T, day, start int, want api.Errno) {
	if y, n, e := iso.Week(day, start); y != 0 || n != 0 || e != want {
		t.Errorf("Week(%d, %d) is %d, %d, %v, want 0, 0, %v", day, start, y, n, e, want)
	}
}

func checkFirst(t *testing.T, year, start, day int, want api.Errno) {
	if got, e := iso.First(year, start); got != day || e != want {
		t.Errorf("First(%d, %d) is %d, %v, want %d, %v", year, start, got, e, day, want)
	}
}

func checkWeeks(t *testing.T, year, start, weeks int, want api.Errno) {
	if got, e := iso.Weeks(year, start); got != weeks || e != want {
		t.Errorf("Weeks(%d, %d) is %d, %v, want %d, %v", year, start, got, e, weeks, want)
	}
}

// checkRejected expects ErrRange of the bad years with any start, and otherwise ErrArg of bad starts.
func checkRejected(t *testing.T, check func(t *testing.T, year, start, n int, want api.Errno), good, bad []int) {
	for _, year := range bad {
		for start := range 7 {
			check(t, year, start, 0, api.ErrRange)
		}
	}
	for _, start := range notStarts() {
		for _, year := range bad {
			check(t, year, start, 0, api.ErrRange)
		}
		for _, year := range good {
			check(t, year, start, 0, api.ErrArg)
		}
	}
}

func checkISO(t *testing.T, day int, d api.Date) {
	if got, e := iso.ISO(day); got != d || e != api.OK {
		t.Errorf("ISO(%d) is %v, %v, want %v", day, got, e, d)
	}
	if got, e := iso.FromISO(d); got != day || e != api.OK {
		t.Errorf("FromISO(%v) is %d, %v, want %d", d, got, e, day)
	}
}

func checkNoISO(t *testing.T, d api.Date) {
	if day, e := iso.FromISO(d); day != 0 || e != api.ErrRange {
		t.Errorf("FromISO(%v) is %d, %v, want 0, ErrRange", d, day, e)
	}
}

// P3.1

func TestFirst(t *testing.T) {
	for year, days := range firsts {
		for start, day := range days {
			checkFirst(t, year, start, day, api.OK)
		}
	}
}

func TestNoFirst(t *testing.T) {
	checkRejected(t, checkFirst, []int{0, 1, 2026, 9999, 10000}, notYears())
}

func TestWeeks(t *testing.T) {
	weeks := map[int][7]int{
		0:    {52, 52, 52, 53, 53, 52, 52},
		1:    {52, 52, 52, 52, 52, 53, 52},
		2:    {52, 52, 52, 52, 52, 52, 53},
		2024: {52, 52, 52, 52, 52, 53, 53},
		2025: {53, 52, 52, 52, 52, 52, 52},
		2026: {52, 53, 52, 52, 52, 52, 52},
		2027: {52, 52, 53, 52, 52, 52, 52},
		9999: {52, 52, 53, 52, 52, 52, 52},
	}
	for year, numbers := range weeks {
		for start, n := range numbers {
			checkWeeks(t, year, start, n, api.OK)
		}
	}
}

func TestNoWeeks(t *testing.T) {
	checkRejected(t, checkWeeks, []int{0, 1, 2025, 2026, 9999}, append(notYears(), 10000))
}

func TestWeek(t *testing.T) {
	for _, w := range []struct{ day, start, year, week int }{
		// Sunday, 2026-11-15.
		{739935, 0, 2026, 46}, {739935, 1, 2026, 46}, {739935, 2, 2026, 46}, {739935, 3, 2026, 46},
		{739935, 4, 2026, 46}, {739935, 5, 2026, 46}, {739935, 6, 2026, 46}, {739936, 0, 2026, 46}, {739936, 1, 2026, 47},
		// Monday, 2025-12-29, is already in week 1 of the next year if weeks start on Monday.
		{739613, 1, 2025, 52}, {739614, 1, 2026, 1}, {739614, 0, 2025, 53}, {739614, 2, 2025, 52}, {739616, 1, 2026, 1},
		// Thursday, 2026-01-01, is still in the last week of the year before if weeks start on Sunday.
		{739617, 0, 2025, 53}, {739619, 0, 2025, 53}, {739620, 0, 2026, 1}, {739617, 1, 2026, 1}, {739617, 4, 2026, 1}, {739617, 5, 2025, 52},
		// The beginning and the end of a year of 53 weeks: 2027-01-03 and 2027-01-04.
		{739984, 1, 2026, 53}, {739985, 1, 2027, 1},
	} {
		checkWeek(t, w.day, w.start, w.year, w.week)
	}
}

func TestWeekOfFirstAndLastDay(t *testing.T) {
	for start, w := range [7]struct{ year, week int }{{1, 1}, {1, 1}, {0, 52}, {0, 53}, {0, 53}, {1, 1}, {1, 1}} {
		checkWeek(t, 1, start, w.year, w.week)
	}
	for start, w := range [7]struct{ year, week int }{{9999, 52}, {9999, 52}, {9999, 53}, {10000, 1}, {10000, 1}, {10000, 1}, {9999, 52}} {
		checkWeek(t, api.LastDay, start, w.year, w.week)
	}
}

func TestNoWeek(t *testing.T) {
	for _, day := range notDays() {
		for start := range 7 {
			checkNoWeek(t, day, start, api.ErrRange)
		}
		for _, start := range notStarts() {
			checkNoWeek(t, day, start, api.ErrRange)
		}
	}
	for _, start := range notStarts() {
		for _, day := range []int{1, 7, 739935, api.LastDay} {
			checkNoWeek(t, day, start, api.ErrArg)
		}
	}
}

// P3.2

func TestISO(t *testing.T) {
	for day, d := range map[int]api.Date{
		1:       {Year: 1, Month: 1, Day: 1},
		7:       {Year: 1, Month: 1, Day: 7},
		8:       {Year: 1, Month: 2, Day: 1},
		364:     {Year: 1, Month: 52, Day: 7},
		365:     {Year: 2, Month: 1, Day: 1},
		739613:  {Year: 2025, Month: 52, Day: 7},
		739614:  {Year: 2026, Month: 1, Day: 1},
		739617:  {Year: 2026, Month: 1, Day: 4},
		739935:  {Year: 2026, Month: 46, Day: 7},
		739936:  {Year: 2026, Month: 47, Day: 1},
		739978:  {Year: 2026, Month: 53, Day: 1},
		739984:  {Year: 2026, Month: 53, Day: 7},
		739985:  {Year: 2027, Month: 1, Day: 1},
		3652054: {Year: 9999, Month: 51, Day: 7},
		3652055: {Year: 9999, Month: 52, Day: 1},
		3652059: {Year: 9999, Month: 52, Day: 5},
	} {
		checkISO(t, day, d)
	}
}

func TestISOOfNoDay(t *testing.T) {
	for _, day := range notDays() {
		if d, e := iso.ISO(day); d != (api.Date{}) || e != api.ErrRange {
			t.Errorf("ISO(%d) is %v, %v, want no date, ErrRange", day, d, e)
		}
	}
}

func TestNoSuchWeekOrWeekday(t *testing.T) {
	wrong := []int{0, -1, -7, math.MinInt64, math.MinInt64 + 1, math.MaxInt64 - 1, math.MaxInt64, math.MaxInt64 / 7, math.MinInt64 / 7}
	for _, year := range []int{1, 2025, 2026, 9999} {
		for _, n := range append(wrong, 54, 55, 60, 100) {
			checkNoISO(t, api.Date{Year: year, Month: n, Day: 1})
		}
		for _, n := range append(wrong, 8, 9, 14, 15) {
			checkNoISO(t, api.Date{Year: year, Month: 10, Day: n})
		}
	}
	for _, d := range []api.Date{
		{}, {Year: 2025, Month: 53, Day: 1}, {Year: 2025, Month: 53, Day: 7}, {Year: 2027, Month: 53, Day: 1}, {Year: 2026, Month: 53, Day: 8},
		{Year: 1, Month: 53, Day: 1}, {Year: 2026, Month: 0, Day: 8}, {Year: 2026, Month: 2, Day: 0}, {Year: 2026, Month: 2, Day: -6},
	} {
		checkNoISO(t, d)
	}
}

func TestWeekDateWithoutDay(t *testing.T) {
	// Year 0 ends on a Sunday, and the last day is a Friday.
	for _, d := range []api.Date{
		{Year: 0, Month: 52, Day: 7}, {Year: 0, Month: 52, Day: 1}, {Year: 0, Month: 1, Day: 1}, {Year: 0, Month: 53, Day: 1},
		{Year: 9999, Month: 52, Day: 6}, {Year: 9999, Month: 52, Day: 7}, {Year: 9999, Month: 53, Day: 1},
	} {
		checkNoISO(t, d)
	}
	for _, year := range append(notYears(), 10000) {
		for _, week := range []int{1, 2, 26, 52, 53} {
			for _, weekday := range []int{1, 5, 7} {
				checkNoISO(t, api.Date{Year: year, Month: week, Day: weekday})
			}
		}
	}
}

// All weeks of all days

func daysOfYear(year int) int {
	if year%400 == 0 || year%100 != 0 && year%4 == 0 {
		return 366
	}
	return 365
}

// countedWeek is a week that the walk comes to: it begins on day and is the week number of year.
type countedWeek struct{ day, year, number int }

// eachWeek counts the weeks that start on a weekday, from week 1 of year 0 to week 1 of year 10001, by
// how many of their days are in which year. It shares no arithmetic with the package.
func eachWeek(start int, visit func(w countedWeek)) {
	// Year 0 begins on day -365, a Saturday, so the weeks that begin in the seven days up to it are
	// the first ones with a day in it.
	day, nextYear := -371+start, -365
	year, number := -1, 0
	for year <= 10000 {
		if inNextYear := day + 7 - nextYear; inNextYear >= 4 {
			year++
			number = 0
			nextYear += daysOfYear(year)
		}
		number++
		if year >= 0 {
			visit(countedWeek{day, year, number})
		}
		day += 7
	}
}

func TestEachWeek(t *testing.T) {
	for start := range 7 {
		weeks := 0
		eachWeek(start, func(w countedWeek) {
			if w.number == 1 {
				checkCountedYear(t, w, start, weeks)
			}
			weeks = w.number
			for i := range 7 {
				if day := w.day + i; day >= 1 && day <= api.LastDay {
					checkWeek(t, day, start, w.year, w.number)
				}
			}
			if t.Failed() {
				t.FailNow()
			}
		})
	}
}

// checkCountedYear checks the year that week 1 begins, and the one that ended with that many weeks.
func checkCountedYear(t *testing.T, w countedWeek, start, weeks int) {
	if w.year <= 10000 {
		checkFirst(t, w.year, start, w.day, api.OK)
	} else {
		checkFirst(t, w.year, start, 0, api.ErrRange)
	}
	if ended := w.year - 1; ended >= 0 && ended <= 9999 {
		checkWeeks(t, ended, start, weeks, api.OK)
		if weeks != 52 && weeks != 53 {
			t.Errorf("year %d has %d weeks", ended, weeks)
		}
	}
}

func TestEachISODate(t *testing.T) {
	weeks := 0
	eachWeek(1, func(w countedWeek) {
		if w.number == 1 {
			checkNoISO(t, api.Date{Year: w.year - 1, Month: weeks + 1, Day: 1})
		}
		weeks = w.number
		for i := range 7 {
			day, d := w.day+i, api.Date{Year: w.year, Month: w.number, Day: i + 1}
			if day >= 1 && day <= api.LastDay {
				checkISO(t, day, d)
			} else {
				checkNoISO(t, d)
			}
		}
		checkNoISO(t, api.Date{Year: w.year, Month: w.number, Day: 0})
		checkNoISO(t, api.Date{Year: w.year, Month: w.number, Day: 8})
		if t.Failed() {
			t.FailNow()
		}
	})
}
