package expand_test

import (
	"math"
	"slices"
	"strings"
	"testing"
	"time"

	"tryst/api"
	"tryst/expand"
	"tryst/recur"
)

const (
	daySeconds = 86400
	lastDay    = 3652059
	firstValid = daySeconds
	lastValid  = lastDay*daySeconds + daySeconds - 1
	// november is 2026-11-15, a Sunday, at 10:00:00.
	november = 739935*daySeconds + 36000
	// unix is where Go's own seconds begin.
	unix = 719163 * daySeconds
)

// at returns the seconds of a time such as 20261115T100000, by Go's own calendar.
func at(word string) int64 {
	parsed, err := time.Parse("20060102T150405", word)
	if err != nil {
		panic(err)
	}
	return parsed.Unix() + unix
}

// moments returns the seconds of the words of a text. A word such as 103000 is on the day of the word before it.
func moments(text string) []int64 {
	var list []int64
	day := ""
	for _, word := range strings.Fields(text) {
		if len(word) == 6 {
			word = day + "T" + word
		}
		day = word[:8]
		list = append(list, at(word))
	}
	return list
}

// shown returns the text of the seconds.
func shown(list []int64) string {
	var words []string
	for _, at := range list {
		words = append(words, time.Unix(at-unix, 0).UTC().Format("20060102T150405"))
	}
	return strings.Join(words, " ")
}

// rule returns the rule with that text behind FREQ=.
func rule(t *testing.T, s string) api.Rule {
	t.Helper()
	r, e := recur.Parse("FREQ=" + s)
	if e != api.OK {
		t.Fatalf("%s is no rule: %v", s, e)
	}
	return r
}

// printed returns the rule's text.
func printed(r api.Rule) string {
	s, _ := recur.Print(r)
	return s
}

// plain returns the rule with that frequency and nothing else.
func plain(freq int) api.Rule {
	return api.Rule{Freq: freq, Interval: 1, Start: 1}
}

// frequencies are all frequencies.
var frequencies = []int{recur.Daily, recur.Weekly, recur.Monthly, recur.Yearly}

// changed returns a daily rule after a change.
func changed(change func(r *api.Rule)) api.Rule {
	r := plain(recur.Daily)
	change(&r)
	return r
}

// invalidRules returns rules that are not valid, each for one reason.
func invalidRules() []api.Rule {
	until := api.Time{Kind: 1, At: november}
	return []api.Rule{
		{},
		plain(0),
		plain(5),
		plain(-1),
		changed(func(r *api.Rule) { r.Interval = 0 }),
		changed(func(r *api.Rule) { r.Interval = -1 }),
		changed(func(r *api.Rule) { r.Interval = 1001 }),
		changed(func(r *api.Rule) { r.Count = -1 }),
		changed(func(r *api.Rule) { r.Count = 1001 }),
		changed(func(r *api.Rule) { r.Start = 7 }),
		changed(func(r *api.Rule) { r.Start = -1 }),
		changed(func(r *api.Rule) { r.Until = until }),
		changed(func(r *api.Rule) { r.Has = true }),
		changed(func(r *api.Rule) { r.Has, r.Until, r.Count = true, until, 1 }),
		changed(func(r *api.Rule) { r.Has, r.Until = true, api.Time{Kind: 3, At: november, Zone: "Oslo"} }),
		changed(func(r *api.Rule) { r.Has, r.Until = true, api.Time{Kind: 0, At: november} }),
		changed(func(r *api.Rule) { r.Second = []int{60} }),
		changed(func(r *api.Rule) { r.Minute = []int{-1} }),
		changed(func(r *api.Rule) { r.Hour = []int{24} }),
		changed(func(r *api.Rule) { r.Hour = []int{2, 1} }),
		changed(func(r *api.Rule) { r.Hour = []int{1, 1} }),
		changed(func(r *api.Rule) { r.Minute = make([]int, 41) }),
		changed(func(r *api.Rule) { r.Month = []int{13} }),
		changed(func(r *api.Rule) { r.MonthDay = []int{0} }),
		changed(func(r *api.Rule) { r.YearDay = []int{1} }),
		changed(func(r *api.Rule) { r.Week = []int{1} }),
		changed(func(r *api.Rule) { r.Day = []api.Weekday{{Nth: 1, Day: 1}} }),
		changed(func(r *api.Rule) { r.Day = []api.Weekday{{Day: 7}} }),
		changed(func(r *api.Rule) { r.Position = []int{1} }),
		changed(func(r *api.Rule) { r.Position, r.Hour = []int{0}, []int{1} }),
		changed(func(r *api.Rule) { r.Position, r.Hour = []int{367}, []int{1} }),
	}
}

// invalidBegins are seconds that are not valid.
var invalidBegins = []int64{0, 1, -1, firstValid - 1, lastValid + 1, math.MinInt64, math.MaxInt64, -november, math.MinInt32, 1 << 40}

// checkError checks that both functions return the error, and nothing beside it.
func checkError(t *testing.T, r api.Rule, begin int64, want api.Errno) {
	t.Helper()
	for _, period := range []int{0, 1, -1, math.MinInt, math.MaxInt} {
		if l, e := expand.Times(r, begin, period); len(l) != 0 || e != want {
			t.Errorf("Times(%v, %d, %d) = %v, %v, want %v", r, begin, period, l, e, want)
		}
	}
	for _, last := range []int64{november, math.MinInt64, math.MaxInt64} {
		for _, most := range []int{0, 1, -1, math.MinInt, math.MaxInt} {
			if l, more, e := expand.Until(r, begin, last, most); len(l) != 0 || more || e != want {
				t.Errorf("Until(%v, %d, %d, %d) = %v, %v, %v, want %v", r, begin, last, most, l, more, e, want)
			}
		}
	}
}

func TestInvalidRule(t *testing.T) {
	for _, r := range invalidRules() {
		checkError(t, r, november, api.ErrRule)
		// The rule is checked before the begin, and that before most.
		for _, begin := range invalidBegins {
			checkError(t, r, begin, api.ErrRule)
		}
	}
}

func TestInvalidBegin(t *testing.T) {
	for _, begin := range invalidBegins {
		for _, freq := range frequencies {
			checkError(t, plain(freq), begin, api.ErrRange)
		}
		checkError(t, rule(t, "DAILY;BYHOUR=1;BYMINUTE=2;BYSECOND=3;COUNT=1"), begin, api.ErrRange)
	}
}

func TestNegativeMost(t *testing.T) {
	for _, s := range []string{"DAILY", "WEEKLY", "MONTHLY;COUNT=1", "YEARLY;UNTIL=20200101", "DAILY;BYMONTH=2;BYMONTHDAY=30"} {
		for _, most := range []int{-1, -2, -500, math.MinInt32, math.MinInt} {
			for _, last := range []int64{november, november - 1, math.MinInt64, math.MaxInt64} {
				if l, more, e := expand.Until(rule(t, s), november, last, most); len(l) != 0 || more || e != api.ErrArg {
					t.Errorf("Until(%s, %d, %d, %d) = %v, %v, %v, want %v", s, november, last, most, l, more, e, api.ErrArg)
				}
			}
		}
	}
}

// fullRule returns a rule with each list that goes with the others, each with spare capacity, which is filled too.
func fullRule() api.Rule {
	room := func(list ...int) []int { return append(list, 7, 7, 7)[:len(list)] }
	days := append([]api.Weekday{{Day: 0}, {Nth: -1, Day: 1}, {Nth: 3, Day: 1}, {Day: 6}}, api.Weekday{Nth: 7, Day: 7})[:4]
	return api.Rule{
		Freq: recur.Yearly, Interval: 2, Start: 3, Has: true, Until: api.Time{Kind: 2, At: november + 9000*daySeconds},
		Second: room(0, 30), Minute: room(15, 45), Hour: room(9, 17), Day: days, MonthDay: room(-31, -2, 1, 17),
		YearDay: room(-366, 1, 17), Month: room(1, 12), Position: room(-2, -1, 1, 5),
	}
}

func TestRuleIsLeftAlone(t *testing.T) {
	r := fullRule()
	if !recur.Formed(r) {
		t.Fatal("the rule is not valid")
	}
	first, _ := expand.Times(r, november, 0)
	if len(first) == 0 {
		t.Fatal("the rule has no times")
	}
	expand.Until(r, november, lastValid, 100)
	want := fullRule()
	if !recur.Equal(r, want) {
		t.Errorf("the rule is %v, want %v", r, want)
	}
	for i, list := range [][]int{r.Second, r.Minute, r.Hour, r.MonthDay, r.YearDay, r.Month, r.Position} {
		if spare := list[len(list) : len(list)+3]; !slices.Equal(spare, []int{7, 7, 7}) {
			t.Errorf("the spare capacity of list %d is %v", i, spare)
		}
	}
	if spare := r.Day[:5][4]; spare != (api.Weekday{Nth: 7, Day: 7}) {
		t.Errorf("the spare capacity of Day is %v", spare)
	}
}

// spoil overwrites the list and its spare capacity.
func spoil(list []int64) {
	list = list[:cap(list)]
	for i := range list {
		list[i] = -5
	}
}

func TestResultIsNew(t *testing.T) {
	r := rule(t, "DAILY;BYHOUR=9,10,11;BYMINUTE=0,30")
	for range 2 {
		times, _ := expand.Times(r, november, 1)
		if want := moments("20261116T090000 093000 100000 103000 110000 113000"); !slices.Equal(times, want) {
			t.Errorf("Times: %s", shown(times))
		}
		spoil(times)
		list, _, _ := expand.Until(r, november, november+daySeconds/2, 9)
		if want := moments("20261115T100000 103000 110000 113000"); !slices.Equal(list, want) {
			t.Errorf("Until: %s", shown(list))
		}
		spoil(list)
	}
}
