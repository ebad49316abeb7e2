package rata_test

import (
	"math"
	"testing"

	"tryst/api"
	"tryst/rata"
)

// P1.1

func TestLeap(t *testing.T) {
	years := []struct {
		year int
		leap bool
	}{
		{2024, true}, {2025, false}, {2026, false}, {2027, false}, {2028, true},
		{1, false}, {4, true}, {9996, true}, {9999, false}, {10000, true},
		{100, false}, {200, false}, {300, false}, {400, true},
		{1700, false}, {1800, false}, {1900, false}, {2000, true}, {2100, false},
		{0, true}, {-1, false}, {-2, false}, {-3, false}, {-4, true}, {-5, false},
		{-100, false}, {-200, false}, {-300, false}, {-400, true}, {-800, true},
		// 2^63 is divisible by 4 but not by 100.
		{math.MinInt64, true}, {math.MaxInt64, false},
	}
	for _, c := range years {
		if got := rata.Leap(c.year); got != c.leap {
			t.Errorf("Leap(%d) = %v, want %v", c.year, got, c.leap)
		}
	}
}

func TestLeapRepeatsAfter400Years(t *testing.T) {
	count := 0
	for year := -1200; year < 1200; year++ {
		if rata.Leap(year) != rata.Leap(year+400) {
			t.Errorf("Leap(%d) differs from Leap(%d)", year, year+400)
		}
		if rata.Leap(year) {
			count++
		}
	}
	if count != 6*97 {
		t.Errorf("%d leap years in 2400 years, want %d", count, 6*97)
	}
}

func monthLengths() []int {
	return []int{31, 28, 31, 30, 31, 30, 31, 31, 30, 31, 30, 31}
}

func TestLengthOfEachMonth(t *testing.T) {
	for _, year := range []int{math.MinInt64, -401, -400, -100, -4, -1, 0, 1, 4, 1900, 2000, 2024, 2026, 9999, 10000, math.MaxInt64} {
		for i, want := range monthLengths() {
			if i == 1 && rata.Leap(year) {
				want = 29
			}
			if got := rata.Length(year, i+1); got != want {
				t.Errorf("Length(%d, %d) = %d, want %d", year, i+1, got, want)
			}
		}
	}
}

func TestLengthOfFebruary(t *testing.T) {
	for year, want := range map[int]int{2024: 29, 2026: 28, 1900: 28, 2000: 29, 0: 29, -4: 29, -100: 28, -400: 29, -1: 28} {
		if got := rata.Length(year, 2); got != want {
			t.Errorf("Length(%d, 2) = %d, want %d", year, got, want)
		}
	}
}

func TestLengthOfNoMonth(t *testing.T) {
	for _, year := range []int{-4, 0, 1, 2024, 2026, 9999} {
		for _, month := range []int{0, 13, 14, -1, -2, -12, math.MinInt64, math.MaxInt64} {
			if got := rata.Length(year, month); got != 0 {
				t.Errorf("Length(%d, %d) = %d, want 0", year, month, got)
			}
		}
	}
}

func validDates() []api.Date {
	return []api.Date{
		{Year: 1, Month: 1, Day: 1}, {Year: 9999, Month: 12, Day: 31},
		{Year: 2026, Month: 11, Day: 15}, {Year: 2026, Month: 2, Day: 28},
		{Year: 2024, Month: 2, Day: 29}, {Year: 2000, Month: 2, Day: 29}, {Year: 400, Month: 2, Day: 29},
		{Year: 2026, Month: 1, Day: 31}, {Year: 2026, Month: 4, Day: 30},
	}
}

func invalidDates() []api.Date {
	return []api.Date{
		{},
		{Year: 0, Month: 1, Day: 1}, {Year: 0, Month: 12, Day: 31}, {Year: -4, Month: 2, Day: 29},
		{Year: 10000, Month: 1, Day: 1}, {Year: math.MinInt64, Month: 1, Day: 1}, {Year: math.MaxInt64, Month: 1, Day: 1},
		{Year: 2026, Month: 0, Day: 1}, {Year: 2026, Month: 0, Day: 0}, {Year: 2026, Month: 13, Day: 1}, {Year: 2026, Month: 13, Day: 0},
		{Year: 2026, Month: -1, Day: 1}, {Year: 2026, Month: math.MinInt64, Day: 1}, {Year: 2026, Month: math.MaxInt64, Day: 1},
		{Year: 2026, Month: 1, Day: 0}, {Year: 2026, Month: 1, Day: -1}, {Year: 2026, Month: 1, Day: 32},
		{Year: 2026, Month: 1, Day: math.MinInt64}, {Year: 2026, Month: 1, Day: math.MaxInt64},
		{Year: 2026, Month: 2, Day: 29}, {Year: 1900, Month: 2, Day: 29}, {Year: 2024, Month: 2, Day: 30}, {Year: 2000, Month: 2, Day: 30},
		{Year: 2026, Month: 4, Day: 31}, {Year: 2026, Month: 6, Day: 31}, {Year: 2026, Month: 9, Day: 31}, {Year: 2026, Month: 11, Day: 31},
	}
}

func TestRight(t *testing.T) {
	for _, d := range validDates() {
		if !rata.Right(d) {
			t.Errorf("Right(%v) = false", d)
		}
	}
	for _, d := range invalidDates() {
		if rata.Right(d) {
			t.Errorf("Right(%v) = true", d)
		}
	}
}

func TestOf(t *testing.T) {
	for _, day := range []int{1, 2, 739935, api.LastDay - 1, api.LastDay} {
		if !rata.Of(day) {
			t.Errorf("Of(%d) = false", day)
		}
	}
	for _, day := range notDays() {
		if rata.Of(day) {
			t.Errorf("Of(%d) = true", day)
		}
	}
}

// P1.2

func notDays() []int {
	return []int{0, -1, -365, api.LastDay + 1, math.MinInt64, math.MaxInt64}
}

func TestDayAndDate(t *testing.T) {
	days := map[int]api.Date{
		1:       {Year: 1, Month: 1, Day: 1},
		31:      {Year: 1, Month: 1, Day: 31},
		32:      {Year: 1, Month: 2, Day: 1},
		365:     {Year: 1, Month: 12, Day: 31},
		366:     {Year: 2, Month: 1, Day: 1},
		1461:    {Year: 4, Month: 12, Day: 31},
		1462:    {Year: 5, Month: 1, Day: 1},
		36524:   {Year: 100, Month: 12, Day: 31},
		36525:   {Year: 101, Month: 1, Day: 1},
		146097:  {Year: 400, Month: 12, Day: 31},
		146098:  {Year: 401, Month: 1, Day: 1},
		730179:  {Year: 2000, Month: 2, Day: 29},
		730180:  {Year: 2000, Month: 3, Day: 1},
		739935:  {Year: 2026, Month: 11, Day: 15},
		3652059: {Year: 9999, Month: 12, Day: 31},
	}
	for day, d := range days {
		if got, e := rata.Day(d); got != day || e != api.OK {
			t.Errorf("Day(%v) = %d, %v, want %d", d, got, e, day)
		}
		if got, e := rata.Date(day); got != d || e != api.OK {
			t.Errorf("Date(%d) = %v, %v, want %v", day, got, e, d)
		}
	}
}

// TestEachDay counts all days by the lengths of the months alone, so it does not share the arithmetic of the package.
func TestEachDay(t *testing.T) {
	day := 0
	for year := 1; year <= api.MaxYear; year++ {
		inYear := 0
		for i, length := range monthLengths() {
			if i == 1 && (year%400 == 0 || year%4 == 0 && year%100 != 0) {
				length = 29
			}
			for n := 1; n <= length; n++ {
				day++
				inYear++
				checkDay(t, day, inYear, api.Date{Year: year, Month: i + 1, Day: n})
			}
		}
		if t.Failed() {
			t.FailNow()
		}
	}
	if day != api.LastDay {
		t.Errorf("the last day is %d, want %d", day, api.LastDay)
	}
}

func checkDay(t *testing.T, day, inYear int, d api.Date) {
	if !rata.Right(d) || !rata.Of(day) {
		t.Errorf("day %d, %v, is not valid", day, d)
	}
	if got, e := rata.Day(d); got != day || e != api.OK {
		t.Errorf("Day(%v) = %d, %v, want %d", d, got, e, day)
	}
	if got, e := rata.Date(day); got != d || e != api.OK {
		t.Errorf("Date(%d) = %v, %v, want %v", day, got, e, d)
	}
	if got, e := rata.InYear(day); got != inYear || e != api.OK {
		t.Errorf("InYear(%d) = %d, %v, want %d", day, got, e, inYear)
	}
	if got := rata.Weekday(day); got != day%7 {
		t.Errorf("Weekday(%d) = %d, want %d", day, got, day%7)
	}
}

func TestDayOfInvalidDate(t *testing.T) {
	for _, d := range invalidDates() {
		if day, e := rata.Day(d); day != 0 || e != api.ErrRange {
			t.Errorf("Day(%v) = %d, %v, want 0, ErrRange", d, day, e)
		}
	}
}

func TestDateAndInYearOfNoDay(t *testing.T) {
	for _, day := range notDays() {
		if d, e := rata.Date(day); d != (api.Date{}) || e != api.ErrRange {
			t.Errorf("Date(%d) = %v, %v, want no date, ErrRange", day, d, e)
		}
		if n, e := rata.InYear(day); n != 0 || e != api.ErrRange {
			t.Errorf("InYear(%d) = %d, %v, want 0, ErrRange", day, n, e)
		}
	}
}

func TestWeekday(t *testing.T) {
	weekdays := map[int]int{
		1: 1, 2: 2, 6: 6, 7: 0, 8: 1, 739935: 0, 739936: 1, api.LastDay: 5, api.LastDay + 1: 6,
		0: 0, -1: 6, -2: 5, -6: 1, -7: 0, -8: 6,
		// 2^63 leaves the remainder 1 when divided by 7.
		math.MaxInt64: 0, math.MaxInt64 - 1: 6, math.MinInt64: 6, math.MinInt64 + 1: 0,
	}
	for day, want := range weekdays {
		if got := rata.Weekday(day); got != want {
			t.Errorf("Weekday(%d) = %d, want %d", day, got, want)
		}
	}
	for day := -1000; day < 1000; day++ {
		if got, want := rata.Weekday(day+1), (rata.Weekday(day)+1)%7; got != want {
			t.Errorf("Weekday(%d) = %d, want %d", day+1, got, want)
		}
	}
}

func TestInYear(t *testing.T) {
	numbers := map[int]int{1: 1, 365: 365, 366: 1, 1461: 366, 1462: 1, 36524: 365, 36525: 1, 146097: 366, 146098: 1, 730179: 60, 739935: 319, api.LastDay: 365}
	for day, want := range numbers {
		if got, e := rata.InYear(day); got != want || e != api.OK {
			t.Errorf("InYear(%d) = %d, %v, want %d", day, got, e, want)
		}
	}
}

func TestAdd(t *testing.T) {
	sums := [][3]int{
		{365, 1, 366}, {366, -1, 365}, {5, 0, 5}, {1, 0, 1}, {api.LastDay, 0, api.LastDay},
		{1, api.LastDay - 1, api.LastDay}, {api.LastDay, 1 - api.LastDay, 1},
		{739935, 30, 739965}, {739935, -739934, 1}, {739935, api.LastDay - 739935, api.LastDay},
	}
	for _, c := range sums {
		if got, e := rata.Add(c[0], c[1]); got != c[2] || e != api.OK {
			t.Errorf("Add(%d, %d) = %d, %v, want %d", c[0], c[1], got, e, c[2])
		}
	}
}

func TestAddOutOfRange(t *testing.T) {
	pairs := [][2]int{
		{1, -1}, {api.LastDay, 1}, {1, api.LastDay}, {api.LastDay, -api.LastDay}, {739935, -739935},
		{0, 0}, {0, 1}, {-1, 2}, {api.LastDay + 1, 0}, {api.LastDay + 1, -1}, {api.LastDay + 2, -api.LastDay},
		{1, math.MaxInt64}, {1, math.MinInt64}, {api.LastDay, math.MaxInt64}, {api.LastDay, math.MinInt64},
		// These are not days, but their sums, some of them wrapped round, would be.
		{math.MaxInt64, math.MinInt64 + 2}, {math.MinInt64, math.MinInt64 + 1}, {math.MinInt64, math.MinInt64 + 100},
		{math.MaxInt64, -math.MaxInt64 + 1}, {math.MinInt64 + 2, math.MaxInt64},
	}
	for _, c := range pairs {
		if got, e := rata.Add(c[0], c[1]); got != 0 || e != api.ErrRange {
			t.Errorf("Add(%d, %d) = %d, %v, want 0, ErrRange", c[0], c[1], got, e)
		}
	}
}
