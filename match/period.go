package match

import (
	"tryst/api"
	"tryst/floor"
	"tryst/rata"
	"tryst/recur"
)

// Period returns the number of the day's period, 0 for that of the begin's day.
func Period(r api.Rule, begin, day int) (int, api.Errno) {
	if !recur.Formed(r) {
		return 0, api.ErrRule
	}
	if !rata.Of(begin) || !rata.Of(day) {
		return 0, api.ErrRange
	}
	return indexOf(r, day) - indexOf(r, begin), api.OK
}

// Span returns the first and the last day of the period.
func Span(r api.Rule, begin, period int) (int, int, api.Errno) {
	if !recur.Formed(r) {
		return 0, 0, api.ErrRule
	}
	// No period that has a day is further away than there are days, and the index of one that is could wrap round.
	if !rata.Of(begin) || period < -api.LastDay || period > api.LastDay {
		return 0, 0, api.ErrRange
	}
	first, last := bounds(r, indexOf(r, begin)+period)
	first, last = max(first, 1), min(last, api.LastDay)
	if first > last {
		return 0, 0, api.ErrRange
	}
	return first, last, api.OK
}

// indexOf numbers the periods of r one after the other, whatever the begin is, and returns that of the day.
func indexOf(r api.Rule, day int) int {
	date, _ := rata.Date(day)
	switch r.Freq {
	case recur.Weekly:
		// Day 0 is a Sunday, so the day whose number is Start has that weekday.
		return floor.Quotient(day-r.Start, weekDays)
	case recur.Monthly:
		return date.Year*yearMonths + date.Month - 1
	case recur.Yearly:
		return date.Year
	}
	return day
}

// bounds returns the first and the last day of the period with that index. They need not be days of layer 1:
// both are 0 for a month or a year that has none of these.
func bounds(r api.Rule, index int) (int, int) {
	switch r.Freq {
	case recur.Weekly:
		first := index*weekDays + r.Start
		return first, first + weekDays - 1
	case recur.Monthly:
		year, month := floor.Quotient(index, yearMonths), floor.Remainder(index, yearMonths)+1
		return months(year, month, month)
	case recur.Yearly:
		return months(index, 1, december)
	}
	return index, index
}

// months returns the first day of the one month of the year and the last day of the other one, or 0 and 0 if
// layer 1 has no such year.
func months(year, from, to int) (int, int) {
	first, _ := rata.Day(api.Date{Year: year, Month: from, Day: 1})
	last, _ := rata.Day(api.Date{Year: year, Month: to, Day: rata.Length(year, to)})
	return first, last
}
