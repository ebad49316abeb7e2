// Package rata is layer 1: day numbers and Gregorian dates. See shared/doc/01-rata.md.
package rata

import (
	"tryst/api"
)

// The leap years repeat after a cycle of 400 years.
const (
	cycleYears = 400
	cycleDays  = 146097
)

// Leap reports whether year, which may be 0 or negative, is a leap year.
func Leap(year int) bool {
	return year%4 == 0 && (year%100 != 0 || year%400 == 0)
}

// Length returns the number of days of the month, or 0 if there is no such month.
func Length(year, month int) int {
	switch month {
	case 1, 3, 5, 7, 8, 10, 12:
		return 31
	case 4, 6, 9, 11:
		return 30
	case 2:
		if Leap(year) {
			return 29
		}
		return 28
	}
	return 0
}

// Right reports whether d is a valid date.
func Right(d api.Date) bool {
	// A month that does not exist has the length 0, so no day is one of its days.
	return d.Year >= 1 && d.Year <= api.MaxYear && d.Day >= 1 && d.Day <= Length(d.Year, d.Month)
}

// Day returns the number of the date's day.
func Day(d api.Date) (int, api.Errno) {
	if !Right(d) {
		return 0, api.ErrRange
	}
	day := beforeYear(d.Year) + d.Day
	for month := 1; month < d.Month; month++ {
		day += Length(d.Year, month)
	}
	return day, api.OK
}

// Date returns the date of the day.
func Date(day int) (api.Date, api.Errno) {
	if !Of(day) {
		return api.Date{}, api.ErrRange
	}
	year := yearOf(day)
	rest := day - beforeYear(year)
	month := 1
	for rest > Length(year, month) {
		rest -= Length(year, month)
		month++
	}
	return api.Date{Year: year, Month: month, Day: rest}, api.OK
}

// Weekday returns 0 for Sunday to 6 for Saturday, for any integer.
func Weekday(day int) int {
	// Go's remainder of a negative number is not positive, but division rounds down here.
	return (day%7 + 7) % 7
}

// Of reports whether day is a day.
func Of(day int) bool {
	return day >= 1 && day <= api.LastDay
}

// InYear returns the day's number within its year, counted from 1.
func InYear(day int) (int, api.Errno) {
	if !Of(day) {
		return 0, api.ErrRange
	}
	return day - beforeYear(yearOf(day)), api.OK
}

// Add returns the day n days later.
func Add(day, n int) (int, api.Errno) {
	// The sum itself could wrap round, so n is held against the room before and after the day.
	if !Of(day) || n < 1-day || n > api.LastDay-day {
		return 0, api.ErrRange
	}
	return day + n, api.OK
}

// beforeYear returns the number of days before the first day of year, which is at least 1.
func beforeYear(year int) int {
	y := year - 1
	return 365*y + y/4 - y/100 + y/400
}

// yearOf returns the year of a valid day.
func yearOf(day int) int {
	// With years of the cycle's mean length, a year would begin less than a day before it really
	// does, or less than two days after. So this year is never too great, and at most one too small.
	year := (day-1)*cycleYears/cycleDays + 1
	if day > beforeYear(year+1) {
		year++
	}
	return year
}
