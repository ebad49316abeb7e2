package match

import (
	"slices"

	"tryst/api"
	"tryst/rata"
)

// place is where a thing stands among others of its kind: number, from 1 on, of so many.
type place struct{ number, of int }

// placeInMonth returns the place of the date's day in its month.
func placeInMonth(date api.Date) place {
	return place{date.Day, rata.Length(date.Year, date.Month)}
}

// placeInYear returns the place of the day, which has that date, in its year.
func placeInYear(day int, date api.Date) place {
	number, _ := rata.InYear(day)
	newYearsEve, _ := rata.Day(api.Date{Year: date.Year, Month: december, Day: 31})
	return place{number, number + newYearsEve - day}
}

// amongWeekday returns the place of the day at p among those days that have its weekday.
func (p place) amongWeekday() place {
	before, after := (p.number-1)/weekDays, (p.of-p.number)/weekDays
	return place{before + 1, before + 1 + after}
}

// counted reports whether n counts to the place, from the first one (1, 2, ..) or back from the last one
// (-1, -2, ..).
func (p place) counted(n int) bool {
	return n == p.number || n == p.number-p.of-1
}

// listed reports whether the list is empty or contains a number that counts to the place.
func (p place) listed(list []int) bool {
	return len(list) == 0 || slices.ContainsFunc(list, p.counted)
}
