package expand_test

import (
	"math/rand"
	"slices"
	"testing"

	"tryst/api"
	"tryst/expand"
	"tryst/match"
	"tryst/recur"
)

// A second way to expand: it goes through every second of a day and through every day, and says of each by the words
// of the document whether it is kept. Which days fit is layer 14's.

// has reports whether the number is in the list, or that of the begin if the list is empty.
func has(list []int, number, begin int64) bool {
	if len(list) == 0 {
		return number == begin
	}
	return slices.Contains(list, int(number))
}

// wantedSeconds returns those seconds of a day whose hour, minute and second are those of the rule.
func wantedSeconds(r api.Rule, begin int64) []int64 {
	var list []int64
	b := begin % daySeconds
	for s := range int64(daySeconds) {
		if has(r.Hour, s/3600, b/3600) && has(r.Minute, s/60%60, b/60%60) && has(r.Second, s%60, b%60) {
			list = append(list, s)
		}
	}
	return list
}

// placed returns those times whose index is in Position, counted from either end.
func placed(r api.Rule, times []int64) []int64 {
	if len(r.Position) == 0 {
		return times
	}
	var list []int64
	for i, at := range times {
		if slices.Contains(r.Position, i+1) || slices.Contains(r.Position, i-len(times)) {
			list = append(list, at)
		}
	}
	return list
}

// wantedPeriods returns the times of the periods from 0 to the given one, period by period.
func wantedPeriods(r api.Rule, begin int64, to int) [][]int64 {
	seconds, beginDay := wantedSeconds(r, begin), int(begin/daySeconds)
	all := make([][]int64, to+1)
	for day := max(1, beginDay-366); day <= lastDay; day++ {
		period, _ := match.Period(r, beginDay, day)
		if period < 0 {
			continue
		}
		if period > to {
			break
		}
		if fits, _ := match.Fits(r, beginDay, day); fits {
			for _, s := range seconds {
				all[period] = append(all[period], int64(day)*daySeconds+s)
			}
		}
	}
	for i := range all {
		all[i] = placed(r, all[i])
	}
	return all
}

// wantedTimes returns the times of the period.
func wantedTimes(r api.Rule, begin int64, period int) []int64 {
	if period < 0 {
		return nil
	}
	return wantedPeriods(r, begin, period)[period]
}

// wantedUntil returns the expansion up to last, which is on a day of layer 1.
func wantedUntil(r api.Rule, begin, last int64) []int64 {
	beginDay := int(begin / daySeconds)
	to, _ := match.Period(r, beginDay, int(last/daySeconds))
	list := []int64{begin}
	for _, times := range wantedPeriods(r, begin, max(to, 0)) {
		for _, at := range times {
			isDate := r.Until.Kind == 0
			late := r.Has && (!isDate && at > r.Until.At || isDate && at/daySeconds > r.Until.At/daySeconds)
			if at > begin && !late {
				list = append(list, at)
			}
		}
	}
	if r.Count > 0 && len(list) > r.Count {
		list = list[:r.Count]
	}
	return slices.DeleteFunc(list, func(at int64) bool { return at > last })
}

// A subset says which lists of a rule are not empty.
type subset struct{ month, week, yearDay, monthDay, day, hour, minute, second, position bool }

// subsets returns all of them.
func subsets() []subset {
	var all []subset
	for n := range 512 {
		all = append(all, subset{n&1 != 0, n&2 != 0, n&4 != 0, n&8 != 0, n&16 != 0, n&32 != 0, n&64 != 0, n&128 != 0, n&256 != 0})
	}
	return all
}

// some returns up to four numbers from first to last, ascending, without 0 if first is negative.
func some(random *rand.Rand, first, last int) []int {
	list := []int{last - random.Intn(2)}
	for range random.Intn(4) {
		list = append(list, first+random.Intn(last-first+1))
	}
	slices.Sort(list)
	return slices.DeleteFunc(slices.Compact(list), func(n int) bool { return n == 0 && first < 0 })
}

// someWeekdays returns weekdays, ascending, some of them with an Nth if that is allowed.
func someWeekdays(random *rand.Rand, nth bool) []api.Weekday {
	var list []api.Weekday
	for weekday := random.Intn(7); weekday < 7; weekday += 1 + random.Intn(3) {
		if nth && random.Intn(2) == 0 {
			list = append(list, api.Weekday{Nth: -1 - random.Intn(5), Day: weekday})
		}
		if !nth || random.Intn(2) == 0 {
			list = append(list, api.Weekday{Day: weekday})
		}
		if nth && random.Intn(2) == 0 {
			list = append(list, api.Weekday{Nth: 1 + random.Intn(5), Day: weekday})
		}
	}
	return list
}

// fillDays fills those lists that say which days fit.
func (s subset) fillDays(random *rand.Rand, r *api.Rule) {
	if s.month {
		r.Month = some(random, 1, 12)
	}
	if s.week {
		r.Week = some(random, -53, 53)
	}
	if s.yearDay {
		r.YearDay = some(random, -366, 366)
	}
	if s.monthDay {
		r.MonthDay = some(random, -31, 31)
	}
	if s.day {
		r.Day = someWeekdays(random, r.Freq == recur.Monthly || r.Freq == recur.Yearly && !s.week)
	}
}

// fillTimes fills those lists that say which times of the days are kept.
func (s subset) fillTimes(random *rand.Rand, r *api.Rule) {
	if s.hour {
		r.Hour = some(random, 0, 23)
	}
	if s.minute {
		r.Minute = some(random, 0, 59)
	}
	if s.second {
		r.Second = some(random, 0, 59)
	}
	if s.position {
		r.Position = some(random, -4-8*random.Intn(3), 4+8*random.Intn(3))
	}
}

// filled returns a rule with that frequency and lists, made at random. It need not be valid.
func (s subset) filled(random *rand.Rand, freq int, begin int64) api.Rule {
	r := plain(freq)
	r.Start = random.Intn(7)
	if random.Intn(2) == 0 {
		r.Interval = 1 + random.Intn(4)
	}
	switch random.Intn(6) {
	case 0:
		r.Count = 1 + random.Intn(20)
	case 1:
		r.Has, r.Until = true, api.Time{Kind: 1 + random.Intn(2), At: begin + int64(random.Intn(300*daySeconds))}
	case 2:
		r.Has, r.Until = true, api.Time{Kind: 0, At: (begin/daySeconds + int64(random.Intn(300))) * daySeconds}
	}
	s.fillDays(random, &r)
	s.fillTimes(random, &r)
	return r
}

// reach is the number of days over which rules of each frequency are held against the second way.
func reach(freq int) int {
	return []int{0, 60, 150, 500, 1500}[freq]
}

// checkSecondWay holds both functions against the second way.
func checkSecondWay(t *testing.T, r api.Rule, begin int64) {
	t.Helper()
	last := min(begin+int64(reach(r.Freq))*daySeconds, lastValid)
	checkUntil(t, r, begin, last, wantedUntil(r, begin, last))
	to, _ := match.Period(r, int(begin/daySeconds), int(last/daySeconds))
	for period, want := range wantedPeriods(r, begin, to) {
		if got, e := expand.Times(r, begin, period); !slices.Equal(got, want) || e != api.OK {
			t.Errorf("Times(%s, %s, %d) = %s, %v, want %s", printed(r), shown([]int64{begin}), period, shown(got), e, shown(want))
		}
	}
}

// TestSecondWay holds each frequency with each set of lists against the second way: at either end of the days, around
// 1900 (no leap year), and now.
func TestSecondWay(t *testing.T) {
	random := rand.New(rand.NewSource(15))
	tried := map[int]int{}
	for _, freq := range frequencies {
		for _, s := range subsets() {
			for _, day := range []int{1, 693231, 739935, lastDay - 500} {
				begin := int64(day+random.Intn(400))*daySeconds + int64(random.Intn(daySeconds))
				r := s.filled(random, freq, min(begin, lastValid-300*daySeconds))
				if recur.Formed(r) {
					tried[freq]++
					checkSecondWay(t, r, begin)
				}
			}
		}
	}
	// Of the five lists of days, a daily rule may have three, a weekly one two, a monthly one three and a yearly one
	// all; there are eight sets of those of seconds, with or without positions, which are not allowed alone.
	for freq, sets := range map[int]int{recur.Daily: 8, recur.Weekly: 4, recur.Monthly: 8, recur.Yearly: 32} {
		if want := 4 * (sets*16 - 1); tried[freq] != want {
			t.Errorf("frequency %d: %d rules were tried, want %d", freq, tried[freq], want)
		}
	}
}

// TestSecondWaySecondBySecond holds each number of the lists of seconds against the second way, for several begins.
func TestSecondWaySecondBySecond(t *testing.T) {
	for n := range 60 {
		for _, begin := range []int64{november, november - 36000, november + 50399, november + int64(n)*3661} {
			r := plain(recur.Daily)
			r.Second = []int{n}
			checkSecondWay(t, r, begin)
			r.Minute = []int{n}
			checkSecondWay(t, r, begin)
			r.Second = nil
			checkSecondWay(t, r, begin)
			r.Hour, r.Minute = []int{n % 24}, nil
			checkSecondWay(t, r, begin)
		}
	}
}
