package expand

import (
	"iter"
	"slices"

	"tryst/api"
	"tryst/clock"
	"tryst/match"
	"tryst/rata"
)

// A pattern is a rule with its begin, and what these say of each day that fits.
type pattern struct {
	rule  api.Rule
	begin int64
	// day is the begin's.
	day int
	// seconds are those of a day that fits, ascending.
	seconds []int
}

func patternOf(r api.Rule, begin int64) *pattern {
	return &pattern{r, begin, clock.Day(begin), secondsOf(r, begin)}
}

// secondsOf returns the seconds of a day that fits, ascending as the lists of r are.
func secondsOf(r api.Rule, begin int64) []int {
	_, parts, _ := clock.Parts(begin)
	var list []int
	for _, hour := range orBegin(r.Hour, parts[0]) {
		for _, minute := range orBegin(r.Minute, parts[1]) {
			for _, second := range orBegin(r.Second, parts[2]) {
				list = append(list, (hour*60+minute)*60+second)
			}
		}
	}
	return list
}

// orBegin returns the list, or what the begin has if the list is empty.
func orBegin(list []int, begin int) []int {
	if len(list) == 0 {
		return []int{begin}
	}
	return list
}

// times yields the times of the period that has the days first to last, ascending.
func (p *pattern) times(first, last int) iter.Seq[int64] {
	return func(yield func(int64) bool) {
		days, n := p.days(first, last), len(p.seconds)
		for i := range kept(p.rule.Position, len(days)*n) {
			at, _ := clock.At(days[i/n], p.seconds[i%n])
			if !yield(at) {
				return
			}
		}
	}
}

// days returns those of the days first to last that fit.
func (p *pattern) days(first, last int) []int {
	var list []int
	for day := first; day <= last; day++ {
		if lastOfMonth := p.skip(day); lastOfMonth > 0 {
			day = lastOfMonth
		} else if fits, _ := match.Fits(p.rule, p.day, day); fits {
			list = append(list, day)
		}
	}
	return list
}

// skip returns the last day of a month none of whose days fits, or 0 if some of them may. Rules of one month of
// the year, which time zones have, would otherwise be asked for the days of all the others.
func (p *pattern) skip(day int) int {
	if len(p.rule.Month) == 0 {
		return 0
	}
	date, _ := rata.Date(day)
	if slices.Contains(p.rule.Month, date.Month) {
		return 0
	}
	return day - date.Day + rata.Length(date.Year, date.Month)
}

// kept yields those of the indexes 0 to n - 1 that the positions count to, ascending: all if there are no positions.
func kept(positions []int, n int) iter.Seq[int] {
	if len(positions) == 0 {
		return indexes(n)
	}
	var list []int
	for _, position := range positions {
		index := position - 1
		if position < 0 {
			index = position + n
		}
		if index >= 0 && index < n {
			list = append(list, index)
		}
	}
	slices.Sort(list)
	return slices.Values(slices.Compact(list))
}

// indexes yields 0 to n - 1.
func indexes(n int) iter.Seq[int] {
	return func(yield func(int) bool) {
		for i := range n {
			if !yield(i) {
				return
			}
		}
	}
}
