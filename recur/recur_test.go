package recur_test

import (
	"math"
	"math/bits"
	"reflect"
	"slices"
	"testing"

	"tryst/api"
	"tryst/recur"
)

const (
	secondsOfDay = 86400
	lastSecond   = 315537983999
	// november is the beginning of 2026-11-15.
	november = 63930384000
)

// frequencies are all frequencies.
var frequencies = []int{recur.Daily, recur.Weekly, recur.Monthly, recur.Yearly}

// A column is a list of numbers of a rule, with what the chapter's table says of it.
type column struct {
	name        string
	of          func(r *api.Rule) *[]int
	first, last int
	zero        bool
}

// columns are all lists of numbers, in the order in which they are written.
var columns = []column{
	{"BYSECOND", func(r *api.Rule) *[]int { return &r.Second }, 0, 59, true},
	{"BYMINUTE", func(r *api.Rule) *[]int { return &r.Minute }, 0, 59, true},
	{"BYHOUR", func(r *api.Rule) *[]int { return &r.Hour }, 0, 23, true},
	{"BYMONTHDAY", func(r *api.Rule) *[]int { return &r.MonthDay }, -31, 31, false},
	{"BYYEARDAY", func(r *api.Rule) *[]int { return &r.YearDay }, -366, 366, false},
	{"BYWEEKNO", func(r *api.Rule) *[]int { return &r.Week }, -53, 53, false},
	{"BYMONTH", func(r *api.Rule) *[]int { return &r.Month }, 1, 12, false},
	{"BYSETPOS", func(r *api.Rule) *[]int { return &r.Position }, -366, 366, false},
}

// may reports whether the list may contain n.
func (c column) may(n int) bool {
	return c.first <= n && n <= c.last && (n != 0 || c.zero)
}

// possible returns the numbers that the list may contain, ascending.
func (c column) possible() []int {
	var all []int
	for n := c.first; n <= c.last; n++ {
		if c.may(n) {
			all = append(all, n)
		}
	}
	return all
}

// in returns the valid rule with that list, in which each list of numbers may stand: a yearly one, with a Month
// beside a Position.
func (c column) in(list ...int) api.Rule {
	r := plain(recur.Yearly)
	if c.name == "BYSETPOS" {
		r.Month = []int{2}
	}
	*c.of(&r) = list
	return r
}

// plain returns the rule with that frequency and nothing else.
func plain(freq int) api.Rule {
	return api.Rule{Freq: freq, Interval: 1, Start: 1}
}

// onDays returns the rule with that frequency and weekdays.
func onDays(freq int, days ...api.Weekday) api.Rule {
	r := plain(freq)
	r.Day = days
	return r
}

// day returns the Nth weekday, or each one.
func day(nth, weekday int) api.Weekday {
	return api.Weekday{Nth: nth, Day: weekday}
}

// until returns the daily rule that ends with a time.
func until(end api.Time) api.Rule {
	r := plain(recur.Daily)
	r.Until, r.Has = end, true
	return r
}

// same reports whether two rules are the same, but for nil and empty lists.
func same(a, b api.Rule) bool {
	for _, c := range columns {
		if !slices.Equal(*c.of(&a), *c.of(&b)) {
			return false
		}
		*c.of(&a), *c.of(&b) = nil, nil
	}
	if !slices.Equal(a.Day, b.Day) {
		return false
	}
	a.Day, b.Day = nil, nil
	return reflect.DeepEqual(a, b)
}

// far are numbers that are no value of any field; the low bits of some of them are one.
var far = []int{
	-1000, -1001, 1001, 10000, math.MinInt16, math.MaxInt16, math.MinInt32, math.MaxInt32, math.MinInt64, math.MinInt64 + 1, math.MinInt64 + 2, math.MaxInt64, math.MaxInt64 - 1,
	1<<16 + 1, 1<<16 + 2, 1<<32 + 1, 1<<32 + 2, -1<<32 + 1, -1<<32 + 2, 1<<62 + 1, 1<<62 + 2, -1<<62 + 1, -1<<62 + 2,
}

// A second way to say which rules are valid: a list of the numbers of each list, without those that it may not
// contain, sorted and without those that are repeated, is the list itself.

func valid(r api.Rule) bool {
	return validFields(r) && validLists(r) && validTogether(r)
}

func validFields(r api.Rule) bool {
	if !slices.Contains(frequencies, r.Freq) || r.Interval < 1 || r.Interval > 1000 || r.Count < 0 || r.Count > 1000 || r.Start < 0 || r.Start > 6 {
		return false
	}
	if !r.Has {
		return r.Until.Kind == 0 && r.Until.At == 0 && r.Until.Zone == ""
	}
	inDays := r.Until.At >= secondsOfDay && r.Until.At <= lastSecond
	kind := r.Until.Kind == 1 || r.Until.Kind == 2 || r.Until.Kind == 0 && r.Until.At%secondsOfDay == 0
	return inDays && kind && r.Until.Zone == "" && r.Count == 0
}

func validLists(r api.Rule) bool {
	for _, c := range columns {
		list := *c.of(&r)
		kept := slices.DeleteFunc(slices.Clone(list), func(n int) bool { return !c.may(n) })
		slices.Sort(kept)
		if !slices.Equal(slices.Compact(kept), list) || len(list) > 40 {
			return false
		}
	}
	// The number of a weekday with its Nth grows as the chapter orders them.
	var codes []int
	for _, d := range r.Day {
		if d.Day < 0 || d.Day > 6 || d.Nth < -53 || d.Nth > 53 {
			return false
		}
		codes = append(codes, d.Day*1000+d.Nth)
	}
	sorted := slices.Sorted(slices.Values(codes))
	return slices.Equal(slices.Compact(sorted), codes) && len(codes) <= 40
}

func validTogether(r api.Rule) bool {
	for _, d := range r.Day {
		if d.Nth != 0 && (r.Freq == recur.Daily || r.Freq == recur.Weekly || len(r.Week) != 0) {
			return false
		}
	}
	others := len(r.Second) + len(r.Minute) + len(r.Hour) + len(r.Day) + len(r.MonthDay) + len(r.YearDay) + len(r.Week) + len(r.Month)
	if len(r.Position) != 0 && others == 0 {
		return false
	}
	switch r.Freq {
	case recur.Daily, recur.Monthly:
		return len(r.YearDay) == 0 && len(r.Week) == 0
	case recur.Weekly:
		return len(r.YearDay) == 0 && len(r.Week) == 0 && len(r.MonthDay) == 0
	}
	return true
}

// checkFormed checks that r is valid, and that its text is what the second way writes and is read unchanged.
func checkFormed(t *testing.T, r api.Rule) {
	t.Helper()
	if !recur.Formed(r) {
		t.Errorf("Formed(%+v) = false", r)
	}
	if !valid(r) {
		t.Errorf("%+v is not valid by the second way", r)
	}
	checkPrint(t, r, wantText(r))
}

// checkNotFormed checks that r is not valid, and so has no text.
func checkNotFormed(t *testing.T, r api.Rule) {
	t.Helper()
	if recur.Formed(r) {
		t.Errorf("Formed(%+v) = true", r)
	}
	if valid(r) {
		t.Errorf("%+v is valid by the second way", r)
	}
	if s, e := recur.Print(r); s != "" || e != api.ErrRule {
		t.Errorf("Print(%+v) = %q, %v, want no text, ErrRule", r, s, e)
	}
}

func check(t *testing.T, r api.Rule, want bool) {
	t.Helper()
	if want {
		checkFormed(t, r)
	} else {
		checkNotFormed(t, r)
	}
}

// P13.1: Formed, the fields by themselves

func TestFrequencies(t *testing.T) {
	if recur.Daily != 1 || recur.Weekly != 2 || recur.Monthly != 3 || recur.Yearly != 4 {
		t.Error("the frequencies are", recur.Daily, recur.Weekly, recur.Monthly, recur.Yearly)
	}
	for n := -300; n <= 300; n++ {
		check(t, plain(n), 1 <= n && n <= 4)
	}
	for _, n := range far {
		checkNotFormed(t, plain(n))
	}
}

// TestFieldsByThemselves tries each of the other numbers, with each frequency.
func TestFieldsByThemselves(t *testing.T) {
	for _, field := range []struct {
		of          func(r *api.Rule) *int
		first, last int
	}{
		{func(r *api.Rule) *int { return &r.Interval }, 1, 1000},
		{func(r *api.Rule) *int { return &r.Count }, 0, 1000},
		{func(r *api.Rule) *int { return &r.Start }, 0, 6},
	} {
		for _, freq := range frequencies {
			r := plain(freq)
			for n := -1100; n <= 1100; n++ {
				*field.of(&r) = n
				check(t, r, field.first <= n && n <= field.last)
			}
			for _, n := range far {
				*field.of(&r) = n
				checkNotFormed(t, r)
			}
		}
	}
	checkNotFormed(t, api.Rule{})
	checkNotFormed(t, api.Rule{Freq: 1})
	checkNotFormed(t, api.Rule{Interval: 1})
	checkFormed(t, api.Rule{Freq: 1, Interval: 1})
}

// ends are times of each Kind that a rule may end with.
var ends = []api.Time{
	{Kind: 0, At: secondsOfDay}, {Kind: 0, At: november}, {Kind: 0, At: lastSecond + 1 - secondsOfDay},
	{Kind: 1, At: secondsOfDay}, {Kind: 1, At: november}, {Kind: 1, At: november + 32707}, {Kind: 1, At: lastSecond},
	{Kind: 2, At: secondsOfDay}, {Kind: 2, At: november}, {Kind: 2, At: november + 32707}, {Kind: 2, At: lastSecond},
}

// notEnds are times that no rule ends with: of a zone, or not valid.
var notEnds = []api.Time{
	{}, {Kind: 1}, {Kind: 2}, {Kind: 3}, {Zone: "Oslo"}, {Kind: 3, Zone: "Oslo"},
	{Kind: 3, At: november, Zone: "Oslo"}, {Kind: 3, At: november + 32707, Zone: "Europe/Oslo"}, {Kind: 3, At: november}, {Kind: 3, At: secondsOfDay, Zone: "X"},
	{Kind: 0, At: november, Zone: "Oslo"}, {Kind: 1, At: november, Zone: "Oslo"}, {Kind: 2, At: november, Zone: "Oslo"}, {Kind: 2, At: november, Zone: " "},
	{Kind: -1, At: november}, {Kind: 4, At: november}, {Kind: 4, At: november, Zone: "Oslo"}, {Kind: math.MinInt64, At: november}, {Kind: math.MaxInt64, At: november}, {Kind: 1 << 32, At: november},
	{Kind: 0, At: november + 1}, {Kind: 0, At: november - 1}, {Kind: 0, At: november + 32707}, {Kind: 0, At: lastSecond}, {Kind: 0, At: 1},
	{Kind: 0, At: lastSecond + 1}, {Kind: 1, At: lastSecond + 1}, {Kind: 2, At: lastSecond + 1}, {Kind: 1, At: secondsOfDay - 1}, {Kind: 2, At: secondsOfDay - 1},
	{Kind: 0, At: -secondsOfDay}, {Kind: 1, At: -1}, {Kind: 2, At: math.MinInt64}, {Kind: 2, At: math.MaxInt64}, {Kind: 1, At: 1<<40 + november},
}

func TestUntil(t *testing.T) {
	for _, end := range ends {
		r := until(end)
		checkFormed(t, r)
		for _, freq := range frequencies {
			r.Freq = freq
			checkFormed(t, r)
		}
		// Not both Count and Until.
		for _, count := range []int{1, 2, 1000, 1001, -1, math.MaxInt64, math.MinInt64} {
			r.Count = count
			checkNotFormed(t, r)
		}
		r.Count, r.Has = 0, false
		checkNotFormed(t, r)
		r.Count = 3
		checkNotFormed(t, r)
		r.Until = api.Time{}
		checkFormed(t, r)
	}
}

func TestNotUntil(t *testing.T) {
	for _, end := range notEnds {
		r := until(end)
		checkNotFormed(t, r)
		r.Count = 3
		checkNotFormed(t, r)
		r.Count, r.Has = 0, false
		check(t, r, end == api.Time{})
	}
	// Each field of a time, where there is none.
	for _, end := range []api.Time{{Kind: 1}, {At: 1}, {At: secondsOfDay}, {At: -1}, {Zone: "Oslo"}} {
		r := plain(recur.Daily)
		r.Until = end
		checkNotFormed(t, r)
	}
}

// P13.1: Formed, the lists

func TestNumbersByThemselves(t *testing.T) {
	for _, c := range columns {
		for n := -800; n <= 800; n++ {
			check(t, c.in(n), c.may(n))
		}
		for _, n := range far {
			checkNotFormed(t, c.in(n))
		}
		// A wrong number at each place.
		for _, wrong := range []int{c.first - 1, c.last + 1, math.MinInt64, math.MaxInt64} {
			list := []int{c.first, c.first + 1, c.last - 1, c.last}
			checkFormed(t, c.in(list...))
			for i := range list {
				checkNotFormed(t, c.in(replaced(list, i, wrong)...))
				checkNotFormed(t, c.in(slices.Insert(slices.Clone(list), i, wrong)...))
			}
			checkNotFormed(t, c.in(append(list, wrong)...))
		}
		check(t, c.in(c.first, 0, c.last), false)
		if c.first < 0 {
			checkFormed(t, c.in(-1, 1))
			checkNotFormed(t, c.in(-1, 0, 1))
			checkNotFormed(t, c.in(0, 1))
			checkNotFormed(t, c.in(-1, 0))
		}
	}
}

// replaced returns the list with x in the place of its element i.
func replaced[T any](list []T, i int, x T) []T {
	other := slices.Clone(list)
	other[i] = x
	return other
}

func TestNumbersOrder(t *testing.T) {
	for _, c := range columns {
		possible := c.possible()
		checkFormed(t, c.in())
		checkFormed(t, c.in([]int{}...))
		for i := 1; i < len(possible); i++ {
			a, b := possible[i-1], possible[i]
			checkFormed(t, c.in(a, b))
			checkNotFormed(t, c.in(b, a))
			checkNotFormed(t, c.in(a, a))
		}
		first, middle, last := possible[0], possible[len(possible)/2], possible[len(possible)-1]
		checkFormed(t, c.in(first, middle, last))
		for _, list := range [][]int{
			{first, last, middle}, {middle, first, last}, {middle, last, first}, {last, first, middle}, {last, middle, first},
			{first, first, middle, last}, {first, middle, middle, last}, {first, middle, last, last}, {first, middle, first, last}, {first, middle, last, first},
		} {
			checkNotFormed(t, c.in(list...))
		}
	}
}

func TestNumbersLength(t *testing.T) {
	for _, c := range columns {
		possible := c.possible()
		for n := 1; n <= min(len(possible), 100); n++ {
			check(t, c.in(possible[:n]...), n <= 40)
			check(t, c.in(possible[len(possible)-n:]...), n <= 40)
		}
		checkNotFormed(t, c.in(make([]int, 41)...))
		checkNotFormed(t, c.in(make([]int, 100000)...))
	}
}

func TestWeekdaysByThemselves(t *testing.T) {
	for nth := -60; nth <= 60; nth++ {
		for weekday := -8; weekday <= 15; weekday++ {
			right := -53 <= nth && nth <= 53 && 0 <= weekday && weekday <= 6
			for _, freq := range frequencies {
				check(t, onDays(freq, day(nth, weekday)), right && (nth == 0 || freq == recur.Monthly || freq == recur.Yearly))
			}
			check(t, onDays(recur.Yearly, day(-53, 0), day(nth, weekday), day(53, 6)), right && day(nth, weekday) != day(-53, 0) && day(nth, weekday) != day(53, 6))
		}
	}
	for _, n := range far {
		for _, freq := range frequencies {
			checkNotFormed(t, onDays(freq, day(0, n)))
			checkNotFormed(t, onDays(freq, day(n, 0)))
			checkNotFormed(t, onDays(freq, day(n, 1)))
			checkNotFormed(t, onDays(freq, day(0, 0), day(n, 1), day(0, 2)))
		}
	}
}

// TestWeekdaysOrder tries all lists of two of some weekdays: they ascend by Day and then by Nth.
func TestWeekdaysOrder(t *testing.T) {
	var some []api.Weekday
	for weekday := range 7 {
		for _, nth := range []int{-53, -2, -1, 0, 1, 2, 53} {
			some = append(some, day(nth, weekday))
		}
	}
	for i, a := range some {
		for j, b := range some {
			check(t, onDays(recur.Monthly, a, b), i < j)
			check(t, onDays(recur.Yearly, a, b), i < j)
			check(t, onDays(recur.Daily, a, b), i < j && a.Nth == 0 && b.Nth == 0)
		}
	}
	checkFormed(t, onDays(recur.Monthly, day(2, 0), day(1, 1), day(-1, 2)))
	checkFormed(t, onDays(recur.Monthly, day(-2, 0), day(0, 1), day(1, 1)))
	checkNotFormed(t, onDays(recur.Monthly, day(-1, 2), day(1, 1), day(2, 0)))
	checkNotFormed(t, onDays(recur.Monthly, day(1, 1), day(0, 1), day(2, 1)))
	checkNotFormed(t, onDays(recur.Monthly, day(0, 1), day(0, 2), day(0, 1)))
	checkFormed(t, onDays(recur.Weekly, day(0, 0), day(0, 1), day(0, 2), day(0, 3), day(0, 4), day(0, 5), day(0, 6)))
	checkNotFormed(t, onDays(recur.Weekly, day(0, 1), day(0, 2), day(0, 3), day(0, 4), day(0, 5), day(0, 6), day(0, 0)))
}

func TestWeekdaysLength(t *testing.T) {
	var all []api.Weekday
	for weekday := range 7 {
		for nth := -3; nth <= 3; nth++ {
			all = append(all, day(nth, weekday))
		}
	}
	for n := range len(all) + 1 {
		check(t, onDays(recur.Monthly, all[:n]...), n <= 40)
		check(t, onDays(recur.Yearly, all[len(all)-n:]...), n <= 40)
	}
	checkFormed(t, onDays(recur.Monthly, []api.Weekday{}...))
	checkNotFormed(t, onDays(recur.Monthly, make([]api.Weekday, 41)...))
}

// P13.1: Formed, the lists together

// goes reports whether a list goes with a frequency, as the chapter says it.
func goes(name string, freq int) bool {
	switch name {
	case "BYYEARDAY", "BYWEEKNO":
		return freq == recur.Yearly
	case "BYMONTHDAY":
		return freq != recur.Weekly
	}
	return true
}

func TestListsWithFrequencies(t *testing.T) {
	for _, c := range columns {
		for _, freq := range frequencies {
			r := plain(freq)
			r.Month = []int{2}
			*c.of(&r) = []int{1}
			check(t, r, goes(c.name, freq))
			*c.of(&r) = []int{c.last - 1, c.last}
			check(t, r, goes(c.name, freq))
			*c.of(&r) = []int{}
			checkFormed(t, r)
		}
	}
}

func TestNthWithFrequencies(t *testing.T) {
	for _, nth := range []int{-53, -2, -1, 0, 1, 2, 53} {
		for _, days := range [][]api.Weekday{
			{day(nth, 1)}, {day(nth, 1), day(0, 2), day(0, 3)}, {day(0, 0), day(nth, 1), day(0, 2)}, {day(0, 0), day(0, 1), day(nth, 2)},
		} {
			check(t, onDays(recur.Daily, days...), nth == 0)
			check(t, onDays(recur.Weekly, days...), nth == 0)
			checkFormed(t, onDays(recur.Monthly, days...))
			checkFormed(t, onDays(recur.Yearly, days...))
			r := onDays(recur.Yearly, days...)
			r.Week = []int{}
			checkFormed(t, r)
			r.Week = []int{20}
			check(t, r, nth == 0)
			r.Week = []int{-1, 1, 2}
			check(t, r, nth == 0)
			// No other list rules it out.
			r.Week = nil
			r.YearDay, r.MonthDay, r.Month, r.Hour, r.Position = []int{1}, []int{1}, []int{1}, []int{1}, []int{1}
			checkFormed(t, r)
			r.Freq, r.YearDay = recur.Monthly, nil
			checkFormed(t, r)
		}
	}
}

func TestPosition(t *testing.T) {
	for _, freq := range frequencies {
		for _, list := range [][]int{{1}, {-1}, {-366, -1, 1, 366}} {
			r := plain(freq)
			r.Position = list
			checkNotFormed(t, r)
			// An empty list is none.
			r.Second, r.Day, r.Month = []int{}, []api.Weekday{}, []int{}
			checkNotFormed(t, r)
			r.Day = []api.Weekday{day(0, 1)}
			checkFormed(t, r)
			// Neither an end nor another field is a list.
			r.Day, r.Count, r.Interval, r.Start = nil, 3, 2, 0
			checkNotFormed(t, r)
			for _, c := range columns[:len(columns)-1] {
				r := plain(freq)
				r.Position = list
				*c.of(&r) = []int{1}
				check(t, r, goes(c.name, freq))
				if c.zero {
					*c.of(&r) = []int{0}
					checkFormed(t, r)
				}
			}
		}
	}
}

// subset returns the rule with those of the nine lists that set has, bit by bit.
func subset(freq int, set uint, nth int) api.Rule {
	r := plain(freq)
	for i, c := range columns {
		if set>>i&1 == 1 {
			*c.of(&r) = []int{i + 1, i + 2}
		}
	}
	if set>>len(columns)&1 == 1 {
		r.Day = []api.Weekday{day(0, 2), day(nth, 3), day(0, 5)}
	}
	return r
}

// TestSubsets tries all sets of lists with each frequency and each way to end.
func TestSubsets(t *testing.T) {
	for set := range uint(1 << 9) {
		for _, freq := range frequencies {
			for _, nth := range []int{0, -1} {
				r := subset(freq, set, nth)
				check(t, r, valid(r))
				if n := recur.Lists(r); n != bits.OnesCount(set) {
					t.Errorf("Lists(%+v) = %d, want %d", r, n, bits.OnesCount(set))
				}
				r.Interval, r.Count, r.Start = 2, 7, 0
				check(t, r, valid(r))
				r.Until, r.Has = ends[set%uint(len(ends))], true
				checkNotFormed(t, r)
				r.Count = 0
				check(t, r, valid(r))
			}
		}
	}
}

// P13.1: Equal

// full returns a rule in which no field is zero. It is not valid, which Equal does not ask for.
func full() api.Rule {
	r := subset(recur.Yearly, 1<<9-1, 2)
	r.Interval, r.Count, r.Start, r.Has = 3, 4, 5, true
	r.Until = api.Time{Kind: 3, At: november, Zone: "Oslo"}
	return r
}

func checkEqual(t *testing.T, a, b api.Rule, want bool) {
	t.Helper()
	if recur.Equal(a, b) != want || recur.Equal(b, a) != want {
		t.Errorf("Equal(%+v, %+v) = %v, the other way round %v, want %v", a, b, recur.Equal(a, b), recur.Equal(b, a), want)
	}
}

func TestEqualSame(t *testing.T) {
	for _, r := range []api.Rule{{}, plain(recur.Daily), plain(recur.Yearly), onDays(recur.Monthly, day(-1, 5)), until(ends[0]), full()} {
		checkEqual(t, r, r, true)
		checkEqual(t, r, copied(r, 0), true)
		checkEqual(t, copied(r, 0), copied(r, 5), true)
	}
}

// copied returns the same rule in new memory, each list with that much spare capacity.
func copied(r api.Rule, spare int) api.Rule {
	for _, c := range columns {
		list := c.of(&r)
		*list = append(make([]int, 0, len(*list)+spare), *list...)
	}
	r.Day = append(make([]api.Weekday, 0, len(r.Day)+spare), r.Day...)
	return r
}

func TestEqualFields(t *testing.T) {
	changes := []func(r *api.Rule){
		func(r *api.Rule) { r.Freq-- }, func(r *api.Rule) { r.Interval++ }, func(r *api.Rule) { r.Count++ }, func(r *api.Rule) { r.Start-- },
		func(r *api.Rule) { r.Freq += 1 << 32 }, func(r *api.Rule) { r.Interval += 1 << 32 }, func(r *api.Rule) { r.Count += 1 << 32 }, func(r *api.Rule) { r.Start += 1 << 32 },
		func(r *api.Rule) { r.Has = !r.Has },
		func(r *api.Rule) { r.Until.Kind = 2 }, func(r *api.Rule) { r.Until.At++ }, func(r *api.Rule) { r.Until.At += 1 << 40 }, func(r *api.Rule) { r.Until.Zone = "OSLO" }, func(r *api.Rule) { r.Until.Zone += "x" },
	}
	for _, r := range []api.Rule{full(), {}, plain(recur.Weekly)} {
		for i, change := range changes {
			a := copied(r, 0)
			change(&a)
			checkEqual(t, r, a, false)
			for j, change := range changes {
				b := copied(r, 0)
				change(&b)
				checkEqual(t, a, b, i == j)
			}
		}
	}
}

func TestEqualLists(t *testing.T) {
	for i, c := range columns {
		r := full()
		list := *c.of(&r)
		for _, other := range [][]int{nil, {}, list[:1], list[1:], {list[1], list[0]}, {list[0], list[0]}, {list[0], list[1] + 1}, {list[0] + 1, list[1]}, {list[0], -list[1]}, append(slices.Clone(list), 9), append([]int{0}, list...), {0, 0}, {list[0], list[1] + 1<<32}} {
			a := copied(r, 3)
			*c.of(&a) = other
			checkEqual(t, r, a, false)
		}
		// The same numbers in another list.
		for j, other := range columns {
			a, b := plain(recur.Yearly), plain(recur.Yearly)
			*c.of(&a), *other.of(&b) = []int{1, 2}, []int{1, 2}
			checkEqual(t, a, b, i == j)
		}
		// One list more.
		a := plain(recur.Yearly)
		*c.of(&a) = []int{0}
		checkEqual(t, a, plain(recur.Yearly), false)
		*c.of(&a) = []int{}
		checkEqual(t, a, plain(recur.Yearly), true)
	}
}

func TestEqualDays(t *testing.T) {
	days := []api.Weekday{day(0, 1), day(2, 3)}
	r := onDays(recur.Monthly, days...)
	for _, other := range [][]api.Weekday{
		nil, {}, days[:1], days[1:], {days[1], days[0]}, {days[0], days[0]}, {day(1, 1), days[1]}, {day(0, 2), days[1]}, {days[0], day(-2, 3)}, {days[0], day(3, 2)}, {days[0], day(2, 4)}, {days[0], day(3, 3)},
		{days[0], days[1], days[1]}, {day(0, 0), days[0], days[1]}, {{}, {}}, {days[0], day(2+1<<32, 3)}, {days[0], day(2, 3+1<<32)},
	} {
		checkEqual(t, r, onDays(recur.Monthly, other...), false)
	}
	checkEqual(t, r, onDays(recur.Monthly, slices.Clone(days)...), true)
	checkEqual(t, onDays(recur.Monthly, day(0, 0)), plain(recur.Monthly), false)
}

func TestEqualNilAndEmpty(t *testing.T) {
	empty := plain(recur.Daily)
	for _, c := range columns {
		*c.of(&empty) = []int{}
		one := plain(recur.Daily)
		*c.of(&one) = make([]int, 0, 5)
		checkEqual(t, one, plain(recur.Daily), true)
	}
	empty.Day = []api.Weekday{}
	checkEqual(t, empty, plain(recur.Daily), true)
	checkEqual(t, empty, plain(recur.Weekly), false)
}

// P13.1: Lists

func checkLists(t *testing.T, r api.Rule, want int) {
	t.Helper()
	if n := recur.Lists(r); n != want {
		t.Errorf("Lists(%+v) = %d, want %d", r, n, want)
	}
}

func TestLists(t *testing.T) {
	checkLists(t, api.Rule{}, 0)
	checkLists(t, until(ends[0]), 0)
	checkLists(t, full(), 9)
	for _, c := range columns {
		r := api.Rule{}
		for _, list := range [][]int{{1}, {0}, {5, 5, 3}, make([]int, 100)} {
			*c.of(&r) = list
			checkLists(t, r, 1)
		}
		*c.of(&r) = []int{}
		checkLists(t, r, 0)
		*c.of(&r) = make([]int, 0, 10)
		checkLists(t, r, 0)
		all := full()
		*c.of(&all) = nil
		checkLists(t, all, 8)
	}
	checkLists(t, onDays(recur.Daily, day(0, 0)), 1)
	checkLists(t, onDays(recur.Daily, day(0, 0), day(0, 1)), 1)
	checkLists(t, onDays(recur.Daily, []api.Weekday{}...), 0)
	all := full()
	all.Day = nil
	checkLists(t, all, 8)
	// All other fields are no lists.
	all = full()
	checkLists(t, api.Rule{Freq: all.Freq, Interval: all.Interval, Count: all.Count, Until: all.Until, Has: true, Start: all.Start}, 0)
}
