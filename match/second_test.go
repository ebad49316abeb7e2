package match_test

import (
	"math/rand"
	"slices"
	"testing"
	"time"

	"tryst/api"
	"tryst/match"
	"tryst/recur"
)

// A second way to tell which days fit: the days of a year are listed, and from them those are kept to which the
// numbers of each list of the rule count. Go's own calendar tells months, years and weekdays.

// reach returns the days from first to last.
func reach(first, last int) []int {
	var list []int
	for day := first; day <= last; day++ {
		list = append(list, day)
	}
	return list
}

// daysOfMonth returns the days of the month.
func daysOfMonth(year, month int) []int {
	first := time.Date(year, time.Month(month), 1, 0, 0, 0, 0, time.UTC)
	return reach(dayOf(first), dayOf(first.AddDate(0, 1, -1)))
}

// monthsOfYear returns the months of the year, as lists of days.
func monthsOfYear(year int) [][]int {
	var all [][]int
	for month := 1; month <= 12; month++ {
		all = append(all, daysOfMonth(year, month))
	}
	return all
}

// weekday returns 0 for Sunday to 6 for Saturday.
func weekday(day int) int {
	return int(dateOf(day).Weekday())
}

// weeksOfYear returns the weeks that belong to the year, as lists of days: those with at least four days in it.
func weeksOfYear(year, start int) [][]int {
	all := slices.Concat(monthsOfYear(year)...)
	var weeks [][]int
	for _, first := range reach(all[0]-6, all[len(all)-1]) {
		inYear := 0
		for _, day := range reach(first, first+6) {
			if day >= all[0] && day <= all[len(all)-1] {
				inYear++
			}
		}
		if weekday(first) == start && inYear >= 4 {
			weeks = append(weeks, reach(first, first+6))
		}
	}
	return weeks
}

// pick returns those things to which the numbers count: from the first one (1, 2, ..) or back from the last one
// (-1, -2, ..).
func pick[T any](things []T, numbers ...int) []T {
	var picked []T
	for _, n := range numbers {
		if n > 0 && n <= len(things) {
			picked = append(picked, things[n-1])
		}
		if n < 0 && -n <= len(things) {
			picked = append(picked, things[len(things)+n])
		}
	}
	return picked
}

// keep returns those days that are also in the other list.
func keep(days, others []int) []int {
	in := map[int]bool{}
	for _, day := range others {
		in[day] = true
	}
	var kept []int
	for _, day := range days {
		if in[day] {
			kept = append(kept, day)
		}
	}
	return kept
}

// keepIf returns those days for which ok is true.
func keepIf(days []int, ok func(day int) bool) []int {
	var kept []int
	for _, day := range days {
		if ok(day) {
			kept = append(kept, day)
		}
	}
	return kept
}

// listedWeekdays returns the days that Day contains, counted in the groups of days.
func listedWeekdays(groups [][]int, list []api.Weekday) []int {
	var listed []int
	for _, group := range groups {
		for _, d := range list {
			same := keepIf(group, func(day int) bool { return weekday(day) == d.Day })
			if d.Nth == 0 {
				listed = append(listed, same...)
			}
			listed = append(listed, pick(same, d.Nth)...)
		}
	}
	return listed
}

// listedDays returns the days of the year that all lists of the rule contain.
func listedDays(r api.Rule, year int) []int {
	months := monthsOfYear(year)
	all := slices.Concat(months...)
	days := all
	if len(r.Month) > 0 {
		days = keep(days, slices.Concat(pick(months, r.Month...)...))
	}
	if len(r.Week) > 0 {
		days = keep(days, slices.Concat(pick(weeksOfYear(year, r.Start), r.Week...)...))
	}
	if len(r.YearDay) > 0 {
		days = keep(days, pick(all, r.YearDay...))
	}
	if len(r.MonthDay) > 0 {
		var listed []int
		for _, month := range months {
			listed = append(listed, pick(month, r.MonthDay...)...)
		}
		days = keep(days, listed)
	}
	if len(r.Day) > 0 {
		groups := [][]int{all}
		if r.Freq == recur.Monthly || len(r.Month) > 0 {
			groups = months
		}
		days = keep(days, listedWeekdays(groups, r.Day))
	}
	return days
}

// like reports whether the day is like the begin where the rule's lists leave it open.
func like(r api.Rule, begin, day int) bool {
	from, at := dateOf(begin), dateOf(day)
	noDays := len(r.YearDay) == 0 && len(r.MonthDay) == 0 && len(r.Day) == 0
	if noDays && len(r.Week) == 0 {
		switch r.Freq {
		case recur.Weekly:
			return at.Weekday() == from.Weekday()
		case recur.Monthly:
			return at.Day() == from.Day()
		case recur.Yearly:
			return at.Day() == from.Day() && (len(r.Month) != 0 || at.Month() == from.Month())
		}
	}
	if noDays && len(r.Week) != 0 && r.Freq == recur.Yearly {
		return at.Weekday() == from.Weekday()
	}
	return true
}

// beginsPeriod reports whether a period begins on the day.
func beginsPeriod(r api.Rule, day int) bool {
	switch r.Freq {
	case recur.Weekly:
		return weekday(day) == r.Start
	case recur.Monthly:
		return dateOf(day).Day() == 1
	case recur.Yearly:
		return dateOf(day).YearDay() == 1
	}
	return true
}

// numbers returns the number of the period of each day from first to last, counted from that of the begin, which need
// not be among them.
func numbers(r api.Rule, begin, first, last int) []int {
	lowest, highest := min(first, begin), max(last, begin)
	all := make([]int, highest-lowest+1)
	for day := lowest + 1; day <= highest; day++ {
		all[day-lowest] = all[day-1-lowest]
		if beginsPeriod(r, day) {
			all[day-lowest]++
		}
	}
	own := all[begin-lowest]
	for i := range all {
		all[i] -= own
	}
	return all[first-lowest : last-lowest+1]
}

// wanted returns those days from first to last that fit.
func wanted(r api.Rule, begin, first, last int) []int {
	periods := numbers(r, begin, first, last)
	var fit []int
	for year := dateOf(first).Year(); year <= dateOf(last).Year(); year++ {
		for _, day := range listedDays(r, year) {
			if day < first || day > last {
				continue
			}
			period := periods[day-first]
			if period >= 0 && period%r.Interval == 0 && like(r, begin, day) {
				fit = append(fit, day)
			}
		}
	}
	return fit
}

// checkSecondWay holds Fits against the second way.
func checkSecondWay(t *testing.T, r api.Rule, begin, first, last int) {
	t.Helper()
	if got, want := fitting(t, r, begin, first, last), wanted(r, begin, first, last); !slices.Equal(got, want) {
		t.Fatalf("%s with the begin %s: %s fit, want %s", printed(r), dates([]int{begin}), dates(got), dates(want))
	}
}

// years returns the first and the last day of the years.
func years(first, last int) (int, int) {
	return daysOfMonth(first, 1)[0], daysOfMonth(last, 12)[30]
}

// A subset says which of these lists of a rule are not empty.
type subset struct{ month, week, yearDay, monthDay, day bool }

// subsets returns all of them.
func subsets() []subset {
	var all []subset
	for n := range 32 {
		all = append(all, subset{n&1 != 0, n&2 != 0, n&4 != 0, n&8 != 0, n&16 != 0})
	}
	return all
}

// filled returns a rule with that frequency and lists, made at random. It need not be valid.
func (s subset) filled(random *rand.Rand, freq int) api.Rule {
	r := plain(freq)
	r.Start = random.Intn(7)
	if random.Intn(2) == 0 {
		r.Interval = 1 + random.Intn(4)
	}
	if s.month {
		r.Month = some(random, 1, 12)
	}
	if s.week {
		r.Week = some(random, -53, 53)
	}
	if s.yearDay {
		r.YearDay = some(random, -366, 366)
	}
	if s.monthDay {
		r.MonthDay = some(random, -31, 31)
	}
	if s.day {
		r.Day = someWeekdays(random, freq != recur.Daily && freq != recur.Weekly && !s.week)
	}
	return r
}

// some returns numbers but 0 from first to last, ascending: up to four of them, or up to MaxRule.
func some(random *rand.Rand, first, last int) []int {
	most := []int{4, api.MaxRule}[random.Intn(2)]
	list := []int{last}
	for range random.Intn(most) {
		list = append(list, first+random.Intn(last-first+1))
	}
	slices.Sort(list)
	return keepIf(slices.Compact(list), func(n int) bool { return n != 0 })
}

// someWeekdays returns weekdays, ascending, with or without an Nth.
func someWeekdays(random *rand.Rand, nth bool) []api.Weekday {
	most := 0
	if nth {
		most = []int{0, 1, 5, 6, 53}[random.Intn(5)]
	}
	var list []api.Weekday
	for weekday := random.Intn(7); weekday < 7; weekday += 1 + random.Intn(3) {
		for n := -most; n <= most && len(list) < api.MaxRule; n += 1 + random.Intn(1+most/3) {
			list = append(list, api.Weekday{Nth: n, Day: weekday})
		}
	}
	return list
}

// TestSecondWay holds each frequency with each set of lists, filled in several ways, against the second way, over some
// years: at either end of the days, around the turn of the centuries 1900 (no leap year) and 2000 (one), and now.
func TestSecondWay(t *testing.T) {
	random := rand.New(rand.NewSource(14))
	tried := map[int]int{}
	for _, freq := range frequencies {
		for _, s := range subsets() {
			for range 12 {
				r := s.filled(random, freq)
				if !recur.Formed(r) {
					continue
				}
				tried[freq]++
				for _, year := range []int{1, 1899, 1999, 2026, 9996} {
					first, last := years(year, year+3)
					checkSecondWay(t, r, first+random.Intn(last-first+1), first, last)
				}
			}
		}
	}
	// Of the five lists, a daily rule may have three, a weekly one two, a monthly one three and a yearly one all.
	for freq, want := range map[int]int{recur.Daily: 8, recur.Weekly: 4, recur.Monthly: 8, recur.Yearly: 32} {
		if tried[freq] != 12*want {
			t.Errorf("frequency %d: %d rules were tried, want %d", freq, tried[freq], 12*want)
		}
	}
}

// TestSecondWayNumberByNumber holds each number of each list by itself against the second way.
func TestSecondWayNumberByNumber(t *testing.T) {
	first, last := years(2024, 2028)
	begin := first + 45
	check := func(change func(r *api.Rule, n int), freq, from, to int) {
		for n := from; n <= to; n++ {
			r := plain(freq)
			r.Start = (n%7 + 7) % 7
			change(&r, n)
			if n != 0 {
				checkSecondWay(t, r, begin, first, last)
			}
		}
	}
	for _, freq := range frequencies {
		check(func(r *api.Rule, n int) { r.Month = []int{n} }, freq, 1, 12)
		check(func(r *api.Rule, n int) { r.Day = []api.Weekday{{Day: n % 7}} }, freq, 1, 7)
	}
	check(func(r *api.Rule, n int) { r.MonthDay = []int{n} }, recur.Daily, -31, 31)
	check(func(r *api.Rule, n int) { r.MonthDay = []int{n} }, recur.Monthly, -31, 31)
	check(func(r *api.Rule, n int) { r.MonthDay = []int{n} }, recur.Yearly, -31, 31)
	check(func(r *api.Rule, n int) { r.YearDay = []int{n} }, recur.Yearly, -366, 366)
	check(func(r *api.Rule, n int) { r.Day = []api.Weekday{{Nth: n, Day: 2}} }, recur.Monthly, -53, 53)
	check(func(r *api.Rule, n int) { r.Day = []api.Weekday{{Nth: n, Day: 1}} }, recur.Yearly, -53, 53)
	check(func(r *api.Rule, n int) { r.Day, r.Month = []api.Weekday{{Nth: n, Day: 0}}, []int{2, 7} }, recur.Yearly, -53, 53)
	for start := range 7 {
		check(func(r *api.Rule, n int) { r.Week, r.Start = []int{n}, start }, recur.Yearly, -53, 53)
	}
}

// TestSecondWayBeginByBegin holds rules that leave something open against the second way, for each third day of two years as
// the begin.
func TestSecondWayBeginByBegin(t *testing.T) {
	first, last := years(2027, 2028)
	for _, text := range []string{"DAILY", "WEEKLY", "WEEKLY;INTERVAL=2;WKST=TH", "WEEKLY;BYMONTH=2,3", "MONTHLY", "MONTHLY;BYMONTH=2,3", "YEARLY", "YEARLY;BYMONTH=2,3", "YEARLY;BYWEEKNO=-1,1,9", "YEARLY;BYMONTH=2,3;BYWEEKNO=9"} {
		for begin := first; begin <= last; begin += 3 {
			checkSecondWay(t, rule(t, text), begin, first, last)
		}
	}
}

// TestPeriodsBySecondWay counts through the days of some years for each frequency and each begin of a week, and holds
// Period and Span against the count.
func TestPeriodsBySecondWay(t *testing.T) {
	random := rand.New(rand.NewSource(41))
	for _, year := range []int{1, 1899, 1999, 2026, 9995} {
		first, last := years(year, year+4)
		for _, freq := range frequencies {
			for start := range 7 {
				r := plain(freq)
				r.Start, r.Interval = start, 1+random.Intn(3)
				begin := first + random.Intn(last-first+1)
				checkCounted(t, r, begin, first, last)
			}
		}
	}
}

// checkCounted checks the period of each day, and its span, unless that reaches beyond the days that are counted.
func checkCounted(t *testing.T, r api.Rule, begin, first, last int) {
	t.Helper()
	periods := numbers(r, begin, first, last)
	firsts, lasts := map[int]int{}, map[int]int{}
	for _, day := range reach(first, last) {
		n := periods[day-first]
		if got, e := match.Period(r, begin, day); got != n || e != api.OK {
			t.Fatalf("Period(%s, %d, %d) = %d, %v, want %d", printed(r), begin, day, got, e, n)
		}
		if _, ok := firsts[n]; !ok {
			firsts[n] = day
		}
		lasts[n] = day
	}
	for n, from := range firsts {
		a, b, e := match.Span(r, begin, n)
		if e != api.OK || a != from && (from != first || first == 1) || b != lasts[n] && (lasts[n] != last || last == lastDay) {
			t.Fatalf("Span(%s, %d, %d) = %d, %d, %v, want %d, %d", printed(r), begin, n, a, b, e, from, lasts[n])
		}
	}
}
