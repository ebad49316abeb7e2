package zone

import (
	"math"
	"slices"

	"tryst/api"
	"tryst/clock"
	"tryst/expand"
	"tryst/match"
)

// mostYears is the greatest number of years from one recurrence to the next: from one leap day to the next one
// that has its weekday, around a year such as 1900. A rule without any for so long, such as that of February 30,
// has none at all.
const mostYears = 40

// The first and the last valid second.
const (
	firstSecond = api.SecondsOfDay
	lastSecond  = (api.LastDay+1)*api.SecondsOfDay - 1
)

// offsetAt returns the offset at the UTC time, which need not be valid.
func offsetAt(z Zone, utc int64) int {
	offset, latest := offsetBefore(z), int64(math.MinInt64)
	for _, o := range z.L {
		// Of simultaneous onsets, that of the last observance counts.
		if at, found := lastOnset(o, utc); found && at >= latest {
			offset, latest = o.To, at
		}
	}
	return offset
}

// offsetBefore returns the offset before all onsets.
func offsetBefore(z Zone) int {
	first := z.L[0]
	for _, o := range z.L[1:] {
		if firstOnset(o) < firstOnset(first) {
			first = o
		}
	}
	return first.From
}

// firstOnset returns the earliest onset of o.
func firstOnset(o Observance) int64 {
	return slices.Min(starts(o)) - int64(o.From)
}

// lastOnset returns the last onset of o that is not later than the UTC time, and whether there is one.
func lastOnset(o Observance, utc int64) (int64, bool) {
	local := utc + int64(o.From)
	last, found := lastRecurrence(o, local)
	for _, start := range starts(o) {
		if start <= local && (!found || start > last) {
			last, found = start, true
		}
	}
	if !found {
		return 0, false
	}
	return last - int64(o.From), true
}

// onsets returns the onsets of o that are neither earlier than the one UTC time nor later than the other.
func onsets(o Observance, from, to int64) []int64 {
	from, to = from+int64(o.From), to+int64(o.From)
	list := starts(o)
	if o.Again {
		for period := periodOf(o, from); period <= periodOf(o, to); period++ {
			if at, found := recurrence(o, period); found {
				list = append(list, at)
			}
		}
	}
	list = slices.DeleteFunc(list, func(at int64) bool { return at < from || at > to })
	for i := range list {
		list[i] -= int64(o.From)
	}
	return list
}

// starts returns Start and More, in new memory.
func starts(o Observance) []int64 {
	return append([]int64{o.Start}, o.More...)
}

// lastRecurrence returns the last time after Start by which o recurs that is not later than the local seconds, and
// whether there is one.
func lastRecurrence(o Observance, local int64) (int64, bool) {
	if !o.Again {
		return 0, false
	}
	last := periodOf(o, local)
	for period := last; period >= max(0, last-mostYears); period-- {
		if at, found := recurrence(o, period); found && at <= local {
			return at, true
		}
	}
	return 0, false
}

// recurrence returns the time after Start by which o recurs in the period, and whether there is one.
func recurrence(o Observance, period int) (int64, bool) {
	// A rule of one day of one month has at most one time each year.
	times, _ := expand.Times(o.Rule, o.Start, period)
	if len(times) == 0 || times[0] <= o.Start {
		return 0, false
	}
	return times[0], true
}

// periodOf returns the number of the year of the local seconds, or of the valid ones nearest to them.
func periodOf(o Observance, local int64) int {
	day := clock.Day(min(max(local, firstSecond), lastSecond))
	period, _ := match.Period(o.Rule, clock.Day(o.Start), day)
	return period
}
