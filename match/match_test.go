package match_test

import (
	"math"
	"slices"
	"strings"
	"testing"
	"time"

	"tryst/api"
	"tryst/match"
	"tryst/recur"
)

const (
	lastDay = 3652059
	// november is 2026-11-15, a Sunday.
	november = 739935
	// dayOfUnix is the day on which Go's own seconds begin.
	dayOfUnix = 719163
)

// dateOf returns the beginning of the day in Go's own calendar.
func dateOf(day int) time.Time {
	return time.Unix(int64(day-dayOfUnix)*86400, 0).UTC()
}

// dayOf returns the day of a date in Go's own calendar.
func dayOf(date time.Time) int {
	return int(date.Unix()/86400) + dayOfUnix
}

// on returns the day of a date such as 2026-11-15.
func on(date string) int {
	parsed, err := time.Parse(time.DateOnly, date)
	if err != nil {
		panic(err)
	}
	return dayOf(parsed)
}

// days returns the days of a text of dates and of ranges such as 2026-11-15..2026-11-17.
func days(text string) []int {
	var list []int
	for _, word := range strings.Fields(text) {
		first, last, ok := strings.Cut(word, "..")
		if !ok {
			last = first
		}
		for day := on(first); day <= on(last); day++ {
			list = append(list, day)
		}
	}
	return list
}

// dates returns the dates of the days.
func dates(days []int) string {
	var words []string
	for _, day := range days {
		words = append(words, dateOf(day).Format(time.DateOnly))
	}
	return strings.Join(words, " ")
}

// rule returns the rule with that text behind FREQ=.
func rule(t *testing.T, s string) api.Rule {
	t.Helper()
	r, e := recur.Parse("FREQ=" + s)
	if e != api.OK {
		t.Fatalf("%s is no rule: %v", s, e)
	}
	return r
}

// printed returns the rule's text.
func printed(r api.Rule) string {
	s, _ := recur.Print(r)
	return s
}

// plain returns the rule with that frequency and nothing else.
func plain(freq int) api.Rule {
	return api.Rule{Freq: freq, Interval: 1, Start: 1}
}

// frequencies are all frequencies.
var frequencies = []int{recur.Daily, recur.Weekly, recur.Monthly, recur.Yearly}

// fitting returns those days of the range that fit by Fits.
func fitting(t *testing.T, r api.Rule, begin, first, last int) []int {
	t.Helper()
	var list []int
	for day := first; day <= last; day++ {
		ok, e := match.Fits(r, begin, day)
		if e != api.OK {
			t.Fatalf("Fits(%s, %d, %d) is an error: %v", printed(r), begin, day, e)
		}
		if ok {
			list = append(list, day)
		}
	}
	return list
}

// A row says which days of a range fit a rule.
type row struct{ rule, begin, first, last, want string }

// check checks that exactly those days of the range fit, by Fits and by the second way.
func (w row) check(t *testing.T) {
	t.Helper()
	r, begin, first, last, want := rule(t, w.rule), on(w.begin), on(w.first), on(w.last), days(w.want)
	if got := fitting(t, r, begin, first, last); !slices.Equal(got, want) {
		t.Errorf("%s with the begin %s: %s fit, want %s", w.rule, w.begin, dates(got), w.want)
	}
	if got := wanted(r, begin, first, last); !slices.Equal(got, want) {
		t.Errorf("%s with the begin %s: by the second way %s fit, want %s", w.rule, w.begin, dates(got), w.want)
	}
}

func checkRows(t *testing.T, rows []row) {
	t.Helper()
	for _, w := range rows {
		w.check(t)
	}
}

func TestExample(t *testing.T) {
	if ok, e := match.Fits(rule(t, "MONTHLY;BYDAY=-1FR"), on("2026-11-15"), on("2026-11-27")); !ok || e != api.OK {
		t.Errorf("the example is %v, %v", ok, e)
	}
}

// Periods that count

func TestBeforeBegin(t *testing.T) {
	checkRows(t, []row{
		{"DAILY", "2026-11-15", "2026-10-01", "2026-11-17", "2026-11-15..2026-11-17"},
		{"DAILY;INTERVAL=7", "2026-11-15", "2026-10-01", "2026-11-30", "2026-11-15 2026-11-22 2026-11-29"},
		// A day before the begin fits if it is in the begin's own period.
		{"WEEKLY;BYDAY=MO,SU", "2026-11-11", "2026-10-01", "2026-11-17", "2026-11-09 2026-11-15 2026-11-16"},
		{"WEEKLY;BYDAY=MO,SU;WKST=SU", "2026-11-11", "2026-10-01", "2026-11-17", "2026-11-08 2026-11-09 2026-11-15 2026-11-16"},
		{"WEEKLY", "2026-11-15", "2026-10-01", "2026-11-28", "2026-11-15 2026-11-22"},
		{"MONTHLY;BYMONTHDAY=1,20", "2026-11-15", "2026-09-01", "2026-12-19", "2026-11-01 2026-11-20 2026-12-01"},
		{"MONTHLY", "2026-11-15", "2025-01-01", "2026-12-31", "2026-11-15 2026-12-15"},
		{"YEARLY;BYYEARDAY=1,-1", "2026-11-15", "2024-01-01", "2027-06-01", "2026-01-01 2026-12-31 2027-01-01"},
		{"YEARLY", "2026-11-15", "2020-01-01", "2028-01-01", "2026-11-15 2027-11-15"},
	})
}

func TestInterval(t *testing.T) {
	checkRows(t, []row{
		{"DAILY;INTERVAL=3", "2026-11-15", "2026-11-01", "2026-12-01", "2026-11-15 2026-11-18 2026-11-21 2026-11-24 2026-11-27 2026-11-30"},
		{"DAILY;INTERVAL=1000", "2026-11-15", "2024-01-01", "2033-01-01", "2026-11-15 2029-08-11 2032-05-07"},
		{"WEEKLY;INTERVAL=2;BYDAY=MO", "2026-11-15", "2026-10-01", "2026-12-31", "2026-11-09 2026-11-23 2026-12-07 2026-12-21"},
		{"WEEKLY;INTERVAL=2;BYDAY=MO;WKST=SU", "2026-11-15", "2026-10-01", "2026-12-31", "2026-11-16 2026-11-30 2026-12-14 2026-12-28"},
		{"WEEKLY;INTERVAL=5", "2026-11-15", "2026-10-01", "2027-02-10", "2026-11-15 2026-12-20 2027-01-24"},
		{"MONTHLY;INTERVAL=3", "2026-11-15", "2026-01-01", "2027-12-31", "2026-11-15 2027-02-15 2027-05-15 2027-08-15 2027-11-15"},
		{"MONTHLY;INTERVAL=13", "2026-11-15", "2020-01-01", "2030-01-01", "2026-11-15 2027-12-15 2029-01-15"},
		{"YEARLY;INTERVAL=2", "2026-11-15", "2020-01-01", "2032-01-01", "2026-11-15 2028-11-15 2030-11-15"},
		{"YEARLY;INTERVAL=2;BYMONTHDAY=1;BYMONTH=1,12", "2026-11-15", "2020-01-01", "2029-02-01", "2026-01-01 2026-12-01 2028-01-01 2028-12-01"},
		{"YEARLY;INTERVAL=1000", "2026-11-15", "1020-01-01", "4030-01-01", "2026-11-15 3026-11-15 4026-11-15"},
	})
}

// Each list by itself

func TestMonth(t *testing.T) {
	checkRows(t, []row{
		{"DAILY;BYMONTH=2,12", "2026-11-15", "2026-11-15", "2027-03-02", "2026-12-01..2026-12-31 2027-02-01..2027-02-28"},
		{"DAILY;BYMONTH=11", "2026-11-15", "2026-10-01", "2026-12-31", "2026-11-15..2026-11-30"},
		{"WEEKLY;BYMONTH=12", "2026-11-15", "2026-11-01", "2027-11-30", "2026-12-06 2026-12-13 2026-12-20 2026-12-27"},
		{"MONTHLY;BYMONTH=1,12", "2026-11-15", "2026-01-01", "2028-01-31", "2026-12-15 2027-01-15 2027-12-15 2028-01-15"},
		{"YEARLY;BYMONTH=1,12", "2026-11-15", "2025-01-01", "2028-01-31", "2026-01-15 2026-12-15 2027-01-15 2027-12-15 2028-01-15"},
		{"DAILY;BYMONTH=1,2,3,4,5,6,7,8,9,10,11,12", "2026-01-01", "2026-01-01", "2026-12-31", "2026-01-01..2026-12-31"},
	})
}

const eachWeekday = ";BYDAY=SU,MO,TU,WE,TH,FR,SA"

func TestWeekWithEachStart(t *testing.T) {
	// 2026 begins on a Thursday and ends on one.
	for start, want := range map[string][2]string{
		"SU": {"2026-01-04..2026-01-10", "2026-12-27..2026-12-31"},
		"MO": {"2026-01-01..2026-01-04", "2026-12-28..2026-12-31"},
		"TU": {"2026-01-01..2026-01-05", "2026-12-22..2026-12-28"},
		"WE": {"2026-01-01..2026-01-06", "2026-12-23..2026-12-29"},
		"TH": {"2026-01-01..2026-01-07", "2026-12-24..2026-12-30"},
		"FR": {"2026-01-02..2026-01-08", "2026-12-25..2026-12-31"},
		"SA": {"2026-01-03..2026-01-09", "2026-12-26..2026-12-31"},
	} {
		end := eachWeekday + ";WKST=" + start
		checkRows(t, []row{
			{"YEARLY;BYWEEKNO=1" + end, "2024-01-01", "2025-12-01", "2026-11-30", want[0]},
			{"YEARLY;BYWEEKNO=-1" + end, "2024-01-01", "2026-02-01", "2027-02-01", want[1]},
		})
	}
}

func TestWeekNumbers(t *testing.T) {
	checkRows(t, []row{
		// Weeks that start on Monday: 2026 has 53 of them, 2025 and 2027 have 52.
		{"YEARLY;BYWEEKNO=1" + eachWeekday, "2025-03-05", "2025-06-01", "2028-06-01", "2026-01-01..2026-01-04 2027-01-04..2027-01-10 2028-01-03..2028-01-09"},
		{"YEARLY;BYWEEKNO=2" + eachWeekday, "2025-03-05", "2026-01-01", "2027-12-31", "2026-01-05..2026-01-11 2027-01-11..2027-01-17"},
		{"YEARLY;BYWEEKNO=46" + eachWeekday, "2025-03-05", "2026-01-01", "2027-12-31", "2026-11-09..2026-11-15 2027-11-15..2027-11-21"},
		{"YEARLY;BYWEEKNO=51" + eachWeekday, "2025-03-05", "2026-01-01", "2027-12-31", "2026-12-14..2026-12-20 2027-12-20..2027-12-26"},
		{"YEARLY;BYWEEKNO=52" + eachWeekday, "2025-03-05", "2026-01-01", "2028-01-31", "2026-12-21..2026-12-27 2027-12-27..2027-12-31"},
		{"YEARLY;BYWEEKNO=53" + eachWeekday, "2025-03-05", "2025-01-01", "2028-12-31", "2026-12-28..2026-12-31"},
		{"YEARLY;BYWEEKNO=-1" + eachWeekday, "2025-03-05", "2025-12-01", "2028-01-31", "2025-12-22..2025-12-28 2026-12-28..2026-12-31 2027-12-27..2027-12-31"},
		{"YEARLY;BYWEEKNO=-2" + eachWeekday, "2025-03-05", "2026-01-01", "2027-12-31", "2026-12-21..2026-12-27 2027-12-20..2027-12-26"},
		{"YEARLY;BYWEEKNO=-51" + eachWeekday, "2025-03-05", "2026-01-01", "2027-12-31", "2026-01-12..2026-01-18 2027-01-11..2027-01-17"},
		{"YEARLY;BYWEEKNO=-52" + eachWeekday, "2025-03-05", "2025-12-01", "2027-12-31", "2026-01-05..2026-01-11 2027-01-04..2027-01-10"},
		{"YEARLY;BYWEEKNO=-53" + eachWeekday, "2025-03-05", "2025-01-01", "2028-12-31", "2026-01-01..2026-01-04"},
		// The weeks of these days belong to the year behind and to the year before: no number is theirs.
		{"YEARLY;BYWEEKNO=-53,-52,-1,1,52,53" + eachWeekday, "2025-03-05", "2025-12-29", "2026-01-04", "2026-01-01..2026-01-04"},
		{"YEARLY;BYWEEKNO=-53,-52,-1,1,52,53" + eachWeekday, "2025-03-05", "2026-12-28", "2027-01-04", "2026-12-28..2026-12-31 2027-01-04"},
	})
}

func TestYearDay(t *testing.T) {
	checkRows(t, []row{
		{"YEARLY;BYYEARDAY=-1,1", "2027-06-15", "2026-01-01", "2029-06-01", "2027-01-01 2027-12-31 2028-01-01 2028-12-31 2029-01-01"},
		{"YEARLY;BYYEARDAY=2", "2027-06-15", "2026-01-01", "2028-12-31", "2027-01-02 2028-01-02"},
		{"YEARLY;BYYEARDAY=-2", "2027-06-15", "2026-01-01", "2028-12-31", "2027-12-30 2028-12-30"},
		{"YEARLY;BYYEARDAY=60", "2027-06-15", "2026-01-01", "2028-12-31", "2027-03-01 2028-02-29"},
		{"YEARLY;BYYEARDAY=-306", "2027-06-15", "2026-01-01", "2028-12-31", "2027-03-01 2028-03-01"},
		{"YEARLY;BYYEARDAY=-307", "2027-06-15", "2026-01-01", "2028-12-31", "2027-02-28 2028-02-29"},
		{"YEARLY;BYYEARDAY=365", "2027-06-15", "2026-01-01", "2029-12-30", "2027-12-31 2028-12-30"},
		{"YEARLY;BYYEARDAY=366", "2027-06-15", "2026-01-01", "2031-12-31", "2028-12-31"},
		{"YEARLY;BYYEARDAY=-365", "2027-06-15", "2026-01-01", "2028-12-31", "2027-01-01 2028-01-02"},
		{"YEARLY;BYYEARDAY=-366", "2027-06-15", "2026-01-01", "2031-12-31", "2028-01-01"},
		{"YEARLY;BYYEARDAY=-366,366", "1896-01-01", "1896-01-01", "1904-12-31", "1896-01-01 1896-12-31 1904-01-01 1904-12-31"},
	})
}

func TestMonthDay(t *testing.T) {
	checkRows(t, []row{
		{"MONTHLY;BYMONTHDAY=1", "2027-01-15", "2026-01-01", "2027-04-30", "2027-01-01 2027-02-01 2027-03-01 2027-04-01"},
		{"MONTHLY;BYMONTHDAY=-1", "2027-01-15", "2026-01-01", "2027-04-30", "2027-01-31 2027-02-28 2027-03-31 2027-04-30"},
		{"MONTHLY;BYMONTHDAY=28", "2027-01-15", "2027-01-01", "2027-04-30", "2027-01-28 2027-02-28 2027-03-28 2027-04-28"},
		{"MONTHLY;BYMONTHDAY=29", "2027-01-15", "2027-01-01", "2027-04-30", "2027-01-29 2027-03-29 2027-04-29"},
		{"MONTHLY;BYMONTHDAY=30", "2027-01-15", "2027-01-01", "2027-04-30", "2027-01-30 2027-03-30 2027-04-30"},
		{"MONTHLY;BYMONTHDAY=31", "2027-01-15", "2027-01-01", "2027-04-30", "2027-01-31 2027-03-31"},
		{"MONTHLY;BYMONTHDAY=-28", "2027-01-15", "2027-01-01", "2027-04-30", "2027-01-04 2027-02-01 2027-03-04 2027-04-03"},
		{"MONTHLY;BYMONTHDAY=-29", "2027-01-15", "2027-01-01", "2027-04-30", "2027-01-03 2027-03-03 2027-04-02"},
		{"MONTHLY;BYMONTHDAY=-30", "2027-01-15", "2027-01-01", "2027-04-30", "2027-01-02 2027-03-02 2027-04-01"},
		{"MONTHLY;BYMONTHDAY=-31", "2027-01-15", "2027-01-01", "2027-04-30", "2027-01-01 2027-03-01"},
		// A month of 29 days.
		{"MONTHLY;BYMONTHDAY=-31,-30,-29,29,30,31", "2027-01-15", "2028-02-01", "2028-02-29", "2028-02-01 2028-02-29"},
		{"MONTHLY;BYMONTHDAY=-28,28", "2027-01-15", "2028-02-01", "2028-02-29", "2028-02-02 2028-02-28"},
		{"DAILY;BYMONTHDAY=-1,15", "2027-01-20", "2027-01-01", "2027-03-30", "2027-01-31 2027-02-15 2027-02-28 2027-03-15"},
		{"DAILY;INTERVAL=2;BYMONTHDAY=-1,15", "2027-01-20", "2027-01-01", "2027-03-30", "2027-02-15 2027-03-15"},
		// Without Month, a day of each month.
		{"YEARLY;BYMONTHDAY=-31", "2027-01-20", "2027-01-01", "2027-12-31", "2027-01-01 2027-03-01 2027-05-01 2027-07-01 2027-08-01 2027-10-01 2027-12-01"},
	})
}

func TestEachWeekday(t *testing.T) {
	checkRows(t, []row{
		{"DAILY;BYDAY=SU,WE", "2026-11-15", "2026-11-01", "2026-11-30", "2026-11-15 2026-11-18 2026-11-22 2026-11-25 2026-11-29"},
		{"DAILY;INTERVAL=2;BYDAY=SU,WE", "2026-11-15", "2026-11-01", "2026-11-30", "2026-11-15 2026-11-25 2026-11-29"},
		{"WEEKLY;BYDAY=MO,SA", "2026-11-15", "2026-11-01", "2026-11-30", "2026-11-09 2026-11-14 2026-11-16 2026-11-21 2026-11-23 2026-11-28 2026-11-30"},
		{"MONTHLY;BYDAY=FR", "2026-11-15", "2026-10-01", "2026-12-10", "2026-11-06 2026-11-13 2026-11-20 2026-11-27 2026-12-04"},
		{"YEARLY;BYDAY=TH", "2026-11-15", "2025-12-01", "2026-02-01", "2026-01-01 2026-01-08 2026-01-15 2026-01-22 2026-01-29"},
		{"YEARLY;BYDAY=TH;BYMONTH=2", "2026-11-15", "2026-01-01", "2026-12-31", "2026-02-05 2026-02-12 2026-02-19 2026-02-26"},
	})
	for weekday, name := range []string{"SU", "MO", "TU", "WE", "TH", "FR", "SA"} {
		first := dates([]int{november + weekday})
		row{"DAILY;BYDAY=" + name, "2026-11-15", "2026-11-15", "2026-11-21", first}.check(t)
	}
}

func TestNthWeekdayOfMonth(t *testing.T) {
	// 2027-01 begins on a Friday, and 2027-02 has each weekday four times.
	for _, part := range []string{"MONTHLY;BYDAY=", "YEARLY;BYMONTH=1,2,3,4,5,6,7,8,9,10,11,12;BYDAY="} {
		checkRows(t, []row{
			{part + "1FR", "2027-01-15", "2026-01-01", "2027-04-30", "2027-01-01 2027-02-05 2027-03-05 2027-04-02"},
			{part + "2FR", "2027-01-15", "2026-01-01", "2027-04-30", "2027-01-08 2027-02-12 2027-03-12 2027-04-09"},
			{part + "4FR", "2027-01-15", "2026-01-01", "2027-04-30", "2027-01-22 2027-02-26 2027-03-26 2027-04-23"},
			{part + "5FR", "2027-01-15", "2026-01-01", "2027-04-30", "2027-01-29 2027-04-30"},
			{part + "-1FR", "2027-01-15", "2026-01-01", "2027-04-30", "2027-01-29 2027-02-26 2027-03-26 2027-04-30"},
			{part + "-4FR", "2027-01-15", "2026-01-01", "2027-04-30", "2027-01-08 2027-02-05 2027-03-05 2027-04-09"},
			{part + "-5FR", "2027-01-15", "2026-01-01", "2027-04-30", "2027-01-01 2027-04-02"},
			{part + "1TH,-1SU", "2027-01-15", "2026-01-01", "2027-03-31", "2027-01-07 2027-01-31 2027-02-04 2027-02-28 2027-03-04 2027-03-28"},
			{part + "6FR,-6FR,53FR,-53FR,52FR,-52FR", "2027-01-15", "2026-01-01", "2028-12-31", ""},
			{part + "5MO,-5MO", "2027-01-15", "2027-02-01", "2027-02-28", ""},
			{part + "5TU,-5TU", "2027-01-15", "2028-02-01", "2028-02-29", "2028-02-01 2028-02-29"},
		})
	}
	// In these months alone, not counted in the year.
	checkRows(t, []row{
		{"YEARLY;BYMONTH=3,6;BYDAY=1MO,-1MO", "2027-01-15", "2027-01-01", "2027-12-31", "2027-03-01 2027-03-29 2027-06-07 2027-06-28"},
		{"MONTHLY;BYMONTH=3,6;BYDAY=1MO,-1MO", "2027-01-15", "2027-01-01", "2027-12-31", "2027-03-01 2027-03-29 2027-06-07 2027-06-28"},
		{"YEARLY;BYMONTH=3;BYDAY=10MO,11MO,-40MO", "2027-01-15", "2027-01-01", "2027-12-31", ""},
	})
}

func TestNthWeekdayOfYear(t *testing.T) {
	checkRows(t, []row{
		// 2027 begins and ends on a Friday, and 2028 begins on a Saturday and ends on a Sunday.
		{"YEARLY;BYDAY=1FR", "2027-06-15", "2026-01-01", "2028-12-31", "2027-01-01 2028-01-07"},
		{"YEARLY;BYDAY=2FR", "2027-06-15", "2026-01-01", "2028-12-31", "2027-01-08 2028-01-14"},
		{"YEARLY;BYDAY=10MO", "2027-06-15", "2026-01-01", "2028-12-31", "2027-03-08 2028-03-06"},
		{"YEARLY;BYDAY=52FR", "2027-06-15", "2026-01-01", "2028-12-31", "2027-12-24 2028-12-29"},
		{"YEARLY;BYDAY=53FR", "2027-06-15", "2026-01-01", "2028-12-31", "2027-12-31"},
		{"YEARLY;BYDAY=-1FR", "2027-06-15", "2026-01-01", "2028-12-31", "2027-12-31 2028-12-29"},
		{"YEARLY;BYDAY=-52FR", "2027-06-15", "2026-01-01", "2028-12-31", "2027-01-08 2028-01-07"},
		{"YEARLY;BYDAY=-53FR", "2027-06-15", "2026-01-01", "2028-12-31", "2027-01-01"},
		{"YEARLY;BYDAY=53SA,53SU,53MO", "2027-06-15", "2026-01-01", "2028-12-31", "2028-12-30 2028-12-31"},
		{"YEARLY;BYDAY=-53SA,-53SU,-53MO", "2027-06-15", "2026-01-01", "2028-12-31", "2028-01-01 2028-01-02"},
		{"YEARLY;BYDAY=1MO,-1MO", "2027-06-15", "2027-01-01", "2028-12-31", "2027-01-04 2027-12-27 2028-01-03 2028-12-25"},
		{"YEARLY;BYDAY=53TH,53SA,-53TH,-53SA", "2027-06-15", "2027-01-01", "2027-12-31", ""},
	})
}

// Lists together

func TestTwoLists(t *testing.T) {
	checkRows(t, []row{
		// The begin is a Sunday. Where only Week is there, or Week and Month, its weekday counts.
		{"YEARLY;BYMONTH=1;BYWEEKNO=1,5,6", "2026-11-15", "2026-01-01", "2027-03-01", "2026-01-04 2027-01-10"},
		{"YEARLY;BYMONTH=12;BYWEEKNO=1", "2025-12-29", "2025-01-01", "2028-12-31", ""},
		{"YEARLY;BYMONTH=2;BYYEARDAY=31,32,-306,-307", "2026-11-15", "2026-01-01", "2028-12-31", "2026-02-01 2026-02-28 2027-02-01 2027-02-28 2028-02-01 2028-02-29"},
		{"YEARLY;BYMONTH=2,3;BYMONTHDAY=-1,29", "2026-11-15", "2027-01-01", "2028-12-31", "2027-02-28 2027-03-29 2027-03-31 2028-02-29 2028-03-29 2028-03-31"},
		{"MONTHLY;BYMONTH=2,3;BYMONTHDAY=-1,29", "2026-11-15", "2027-01-01", "2027-12-31", "2027-02-28 2027-03-29 2027-03-31"},
		{"DAILY;BYMONTH=2,3;BYMONTHDAY=-1,29", "2026-11-15", "2027-01-01", "2027-12-31", "2027-02-28 2027-03-29 2027-03-31"},
		{"DAILY;BYMONTH=12;BYDAY=MO", "2026-11-15", "2026-11-01", "2027-01-31", "2026-12-07 2026-12-14 2026-12-21 2026-12-28"},
		{"WEEKLY;BYMONTH=12;BYDAY=MO", "2026-11-15", "2026-11-01", "2027-01-31", "2026-12-07 2026-12-14 2026-12-21 2026-12-28"},
		{"YEARLY;BYWEEKNO=1;BYYEARDAY=1,2,3,4,5", "2026-11-15", "2026-01-01", "2027-12-31", "2026-01-01..2026-01-04 2027-01-04 2027-01-05"},
		{"YEARLY;BYWEEKNO=1,53;BYMONTHDAY=1,28,31", "2026-11-15", "2026-01-01", "2027-12-31", "2026-01-01 2026-12-28 2026-12-31"},
		{"YEARLY;BYWEEKNO=1,53;BYDAY=MO,SA", "2026-11-15", "2026-01-01", "2027-12-31", "2026-01-03 2026-12-28 2027-01-04 2027-01-09"},
		{"YEARLY;BYYEARDAY=1,31,60;BYMONTHDAY=-1,1", "2026-11-15", "2027-01-01", "2028-12-31", "2027-01-01 2027-01-31 2027-03-01 2028-01-01 2028-01-31 2028-02-29"},
		{"YEARLY;BYYEARDAY=1,2,3,-1;BYDAY=FR", "2026-11-15", "2027-01-01", "2028-12-31", "2027-01-01 2027-12-31"},
		{"YEARLY;BYYEARDAY=1,2,3,8,-1;BYDAY=2FR,53FR", "2026-11-15", "2027-01-01", "2028-12-31", "2027-01-08 2027-12-31"},
		{"MONTHLY;BYMONTHDAY=13;BYDAY=FR", "2026-11-15", "2026-01-01", "2027-12-31", "2026-11-13 2027-08-13"},
		{"DAILY;BYMONTHDAY=13;BYDAY=FR", "2026-01-01", "2026-01-01", "2026-12-31", "2026-02-13 2026-03-13 2026-11-13"},
		{"MONTHLY;BYMONTHDAY=1,2,29,30,31;BYDAY=5FR", "2026-11-15", "2027-01-01", "2027-12-31", "2027-01-29 2027-04-30 2027-07-30 2027-10-29 2027-12-31"},
		{"YEARLY;BYMONTHDAY=13;BYDAY=FR", "2026-11-15", "2026-01-01", "2026-12-31", "2026-02-13 2026-03-13 2026-11-13"},
	})
}

// Without Week, YearDay, MonthDay and Day

func TestLikeBegin(t *testing.T) {
	checkRows(t, []row{
		{"DAILY", "2026-12-30", "2026-12-01", "2027-01-02", "2026-12-30..2027-01-02"},
		{"WEEKLY", "2026-12-30", "2026-12-01", "2027-01-20", "2026-12-30 2027-01-06 2027-01-13 2027-01-20"},
		{"WEEKLY;WKST=WE", "2026-12-30", "2026-12-01", "2027-01-20", "2026-12-30 2027-01-06 2027-01-13 2027-01-20"},
		{"WEEKLY;BYMONTH=1", "2026-12-30", "2026-12-01", "2027-02-20", "2027-01-06 2027-01-13 2027-01-20 2027-01-27"},
		{"MONTHLY", "2026-12-30", "2026-11-01", "2027-04-30", "2026-12-30 2027-01-30 2027-03-30 2027-04-30"},
		{"MONTHLY", "2027-01-31", "2027-01-01", "2027-12-31", "2027-01-31 2027-03-31 2027-05-31 2027-07-31 2027-08-31 2027-10-31 2027-12-31"},
		{"MONTHLY", "2028-02-29", "2028-01-01", "2029-04-30", "2028-02-29 2028-03-29 2028-04-29 2028-05-29 2028-06-29 2028-07-29 2028-08-29 2028-09-29 2028-10-29 2028-11-29 2028-12-29 2029-01-29 2029-03-29 2029-04-29"},
		{"MONTHLY;BYMONTH=2", "2027-01-31", "2027-01-01", "2032-12-31", ""},
		{"MONTHLY;BYMONTH=2", "2027-01-29", "2027-01-01", "2032-12-31", "2028-02-29 2032-02-29"},
		{"YEARLY", "2027-01-31", "2026-01-01", "2029-12-31", "2027-01-31 2028-01-31 2029-01-31"},
		{"YEARLY", "2028-02-29", "2027-01-01", "2037-12-31", "2028-02-29 2032-02-29 2036-02-29"},
		{"YEARLY", "2096-02-29", "2096-01-01", "2108-12-31", "2096-02-29 2104-02-29 2108-02-29"},
		{"YEARLY;BYMONTH=3", "2028-02-29", "2027-01-01", "2030-12-31", "2028-03-29 2029-03-29 2030-03-29"},
		{"YEARLY;BYMONTH=2,4,5,8", "2027-01-31", "2026-01-01", "2028-12-31", "2027-05-31 2027-08-31 2028-05-31 2028-08-31"},
		{"YEARLY;BYMONTH=2", "2028-02-29", "2027-01-01", "2033-12-31", "2028-02-29 2032-02-29"},
		// Week alone: 2028-02-29 is a Tuesday.
		{"YEARLY;BYWEEKNO=1,9,53", "2028-02-29", "2027-01-01", "2030-12-31", "2028-01-04 2028-02-29 2029-01-02 2029-02-27 2030-01-01 2030-02-26"},
		{"YEARLY;BYWEEKNO=-1", "2026-11-15", "2026-01-01", "2028-12-31", "2028-12-31"},
		{"YEARLY;BYWEEKNO=-1;WKST=SU", "2026-11-15", "2026-01-01", "2028-12-31", "2026-12-27 2027-12-26 2028-12-24"},
	})
}

// TestOtherListsSuffice tries each list that leaves nothing open, with a begin that is unlike its days.
func TestOtherListsSuffice(t *testing.T) {
	checkRows(t, []row{
		{"WEEKLY;BYDAY=TU", "2026-11-15", "2026-11-15", "2026-11-28", "2026-11-17 2026-11-24"},
		{"MONTHLY;BYDAY=1TU", "2026-11-15", "2026-11-15", "2027-01-31", "2026-12-01 2027-01-05"},
		{"MONTHLY;BYMONTHDAY=3", "2026-11-15", "2026-11-15", "2027-01-31", "2026-12-03 2027-01-03"},
		{"YEARLY;BYDAY=1TU", "2026-11-15", "2026-11-15", "2028-01-31", "2027-01-05 2028-01-04"},
		{"YEARLY;BYMONTHDAY=3", "2026-11-15", "2026-11-15", "2027-01-31", "2026-12-03 2027-01-03"},
		{"YEARLY;BYYEARDAY=3", "2026-11-15", "2026-11-15", "2027-12-31", "2027-01-03"},
		{"YEARLY;BYWEEKNO=1;BYDAY=TU", "2026-11-15", "2026-11-15", "2027-12-31", "2027-01-05"},
		{"YEARLY;BYWEEKNO=1;BYMONTHDAY=5", "2026-11-15", "2026-11-15", "2027-12-31", "2027-01-05"},
		{"YEARLY;BYWEEKNO=1;BYYEARDAY=5", "2026-11-15", "2026-11-15", "2027-12-31", "2027-01-05"},
	})
}

// The ends of the days

func TestFitsAtEitherEnd(t *testing.T) {
	checkRows(t, []row{
		{"DAILY", "0001-01-01", "0001-01-01", "0001-01-03", "0001-01-01..0001-01-03"},
		{"DAILY", "9999-12-31", "9999-12-01", "9999-12-31", "9999-12-31"},
		{"DAILY;INTERVAL=2", "0001-01-01", "9999-12-28", "9999-12-31", "9999-12-29 9999-12-31"},
		{"WEEKLY;INTERVAL=2;BYDAY=MO,TU;WKST=TU", "0001-01-01", "0001-01-01", "0001-01-23", "0001-01-01 0001-01-09 0001-01-15 0001-01-23"},
		{"WEEKLY;BYDAY=TH,FR;WKST=FR", "9999-12-31", "9999-12-20", "9999-12-31", "9999-12-31"},
		{"MONTHLY;BYMONTHDAY=-31,-1", "0001-01-20", "0001-01-01", "0001-02-28", "0001-01-01 0001-01-31 0001-02-28"},
		{"MONTHLY;BYDAY=-1FR,-5FR", "9999-11-20", "9999-12-01", "9999-12-31", "9999-12-03 9999-12-31"},
		{"YEARLY;BYYEARDAY=-365,-1", "0001-06-01", "0001-01-01", "0001-12-31", "0001-01-01 0001-12-31"},
		{"YEARLY;BYDAY=53FR,-53FR", "9999-06-01", "9999-01-01", "9999-12-31", "9999-01-01 9999-12-31"},
		// With weeks that start on Thursday, day 1 is in a week of year 0 and the last day in one of year 10000.
		{"YEARLY;BYWEEKNO=-53,-1,1,53;WKST=TH" + eachWeekday, "0001-06-01", "0001-01-01", "0001-01-31", "0001-01-04..0001-01-10"},
		{"YEARLY;BYWEEKNO=-53,-1,1,53;WKST=TH" + eachWeekday, "9999-06-01", "9999-12-15", "9999-12-31", "9999-12-23..9999-12-29"},
		// With weeks that start on Monday, they are in weeks of their own years.
		{"YEARLY;BYWEEKNO=1" + eachWeekday, "0001-06-01", "0001-01-01", "0001-01-31", "0001-01-01..0001-01-07"},
		{"YEARLY;BYWEEKNO=-1" + eachWeekday, "9999-06-01", "9999-12-15", "9999-12-31", "9999-12-27..9999-12-31"},
	})
}

// What does not matter to a day

func TestTimesDoNotMatter(t *testing.T) {
	for _, text := range []string{"DAILY;INTERVAL=2;BYDAY=SU,TU", "WEEKLY;BYDAY=SU,TU", "WEEKLY", "MONTHLY;BYDAY=-1FR,2SU", "MONTHLY", "YEARLY;BYWEEKNO=46,50", "YEARLY;BYMONTH=1,11", "YEARLY;BYMONTH=12;BYMONTHDAY=-1", "YEARLY"} {
		first, last := november-400, november+800
		want := fitting(t, rule(t, text), november, first, last)
		if len(want) == 0 {
			t.Errorf("%s: no day fits", text)
		}
		for _, part := range []string{";BYHOUR=0,23", ";BYMINUTE=59", ";BYSECOND=1,2,3", ";COUNT=1", ";COUNT=1000", ";UNTIL=20261114", ";UNTIL=20261115T000000", ";UNTIL=99991231T235959Z", ";BYHOUR=9;BYSETPOS=1", ";BYMINUTE=9;BYSETPOS=-366,366", ";BYSETPOS=-1;BYHOUR=7;BYMINUTE=8;BYSECOND=9;COUNT=2"} {
			if got := fitting(t, rule(t, text+part), november, first, last); !slices.Equal(got, want) {
				t.Errorf("%s: %s fit, want %s", text+part, dates(got), dates(want))
			}
		}
	}
}

// Errors

// notDays are no days; the low bits of some of them are one.
var notDays = []int{
	0, -1, -2, -6, -7, -31, -365, -366, -november, lastDay + 1, lastDay + 2, lastDay + 7, lastDay + 366, math.MinInt32, math.MaxInt32, math.MinInt64, math.MinInt64 + 1, math.MaxInt64 - 1, math.MaxInt64,
	math.MinInt64 + november, 1<<32 + november, -1<<32 + november, 1<<62 + november, -1<<62 + november,
}

// notRules returns rules that are not valid.
func notRules() []api.Rule {
	with := func(freq int, change func(r *api.Rule)) api.Rule {
		r := plain(freq)
		change(&r)
		return r
	}
	nth := []api.Weekday{{Nth: 1, Day: 1}}
	return []api.Rule{
		{}, {Interval: 1}, {Freq: -1, Interval: 1}, {Freq: 5, Interval: 1}, {Freq: math.MaxInt64, Interval: 1}, {Freq: 1<<32 + 1, Interval: 1},
		{Freq: 1}, {Freq: 2, Interval: -1}, {Freq: 3, Interval: 1001}, {Freq: 4, Interval: math.MinInt64},
		{Freq: 2, Interval: 1, Start: -1}, {Freq: 2, Interval: 1, Start: 7}, {Freq: 1, Interval: 1, Start: math.MaxInt64}, {Freq: 1, Interval: 1, Start: math.MinInt64},
		with(1, func(r *api.Rule) { r.Count = -1 }),
		with(1, func(r *api.Rule) { r.Count, r.Has, r.Until = 1, true, api.Time{Kind: 2, At: 86400} }),
		with(1, func(r *api.Rule) { r.Until.At = 86400 }),
		with(1, func(r *api.Rule) { r.Has, r.Until = true, api.Time{Kind: 3, At: 86400, Zone: "Oslo"} }),
		with(1, func(r *api.Rule) { r.Second = []int{60} }),
		with(1, func(r *api.Rule) { r.Minute = []int{-1} }),
		with(1, func(r *api.Rule) { r.Hour = []int{24} }),
		with(1, func(r *api.Rule) { r.Hour = make([]int, 41) }),
		with(1, func(r *api.Rule) { r.Day = nth }),
		with(2, func(r *api.Rule) { r.Day = nth }),
		with(4, func(r *api.Rule) { r.Day, r.Week = nth, []int{1} }),
		with(3, func(r *api.Rule) { r.Day = []api.Weekday{{Day: 7}} }),
		with(3, func(r *api.Rule) { r.Day = []api.Weekday{{Nth: 54, Day: 1}} }),
		with(3, func(r *api.Rule) { r.Day = []api.Weekday{{Day: 2}, {Day: 1}} }),
		with(2, func(r *api.Rule) { r.MonthDay = []int{1} }),
		with(3, func(r *api.Rule) { r.MonthDay = []int{0} }),
		with(3, func(r *api.Rule) { r.MonthDay = []int{32} }),
		with(3, func(r *api.Rule) { r.YearDay = []int{1} }),
		with(4, func(r *api.Rule) { r.YearDay = []int{-367} }),
		with(1, func(r *api.Rule) { r.Week = []int{1} }),
		with(4, func(r *api.Rule) { r.Week = []int{-54} }),
		with(4, func(r *api.Rule) { r.Month = []int{0} }),
		with(4, func(r *api.Rule) { r.Month = []int{2, 1} }),
		with(4, func(r *api.Rule) { r.Month = []int{1, 1} }),
		with(4, func(r *api.Rule) { r.Position = []int{1} }),
	}
}

// checkErrors checks that Period and Fits return the error beside zero values.
func checkErrors(t *testing.T, r api.Rule, begin, day int, want api.Errno) {
	t.Helper()
	if n, e := match.Period(r, begin, day); n != 0 || e != want {
		t.Errorf("Period(%+v, %d, %d) = %d, %v, want 0, %v", r, begin, day, n, e, want)
	}
	if ok, e := match.Fits(r, begin, day); ok || e != want {
		t.Errorf("Fits(%+v, %d, %d) = %v, %v, want false, %v", r, begin, day, ok, e, want)
	}
}

// checkNoSpan checks that Span returns the error beside zero values.
func checkNoSpan(t *testing.T, r api.Rule, begin, period int, want api.Errno) {
	t.Helper()
	if first, last, e := match.Span(r, begin, period); first != 0 || last != 0 || e != want {
		t.Errorf("Span(%+v, %d, %d) = %d, %d, %v, want 0, 0, %v", r, begin, period, first, last, e, want)
	}
}

func TestNotValid(t *testing.T) {
	someDays := append(slices.Clone(notDays), 1, november, lastDay)
	for _, r := range notRules() {
		for _, begin := range someDays {
			for _, day := range someDays {
				checkErrors(t, r, begin, day, api.ErrRule)
				checkNoSpan(t, r, begin, day, api.ErrRule)
			}
			checkNoSpan(t, r, begin, 0, api.ErrRule)
		}
	}
}

func TestNoDay(t *testing.T) {
	for _, text := range []string{"DAILY", "WEEKLY", "MONTHLY", "YEARLY", "DAILY;BYMONTH=1", "WEEKLY;BYDAY=MO;WKST=SU", "MONTHLY;INTERVAL=2;BYMONTHDAY=-1", "YEARLY;BYWEEKNO=1"} {
		r := rule(t, text)
		for _, wrong := range notDays {
			for _, day := range []int{1, 2, november, lastDay} {
				checkErrors(t, r, wrong, day, api.ErrRange)
				checkErrors(t, r, day, wrong, api.ErrRange)
			}
			checkErrors(t, r, wrong, wrong, api.ErrRange)
			for _, period := range []int{0, 1, -1, lastDay, math.MinInt64, math.MaxInt64, -wrong} {
				checkNoSpan(t, r, wrong, period, api.ErrRange)
			}
		}
	}
}

func TestFirstAndLastDayAreDays(t *testing.T) {
	for _, freq := range frequencies {
		for _, begin := range []int{1, lastDay} {
			for _, day := range []int{1, lastDay} {
				if _, e := match.Period(plain(freq), begin, day); e != api.OK {
					t.Errorf("Period(%d, %d, %d) is an error: %v", freq, begin, day, e)
				}
				want := begin == day || freq == recur.Daily && begin < day
				if ok, e := match.Fits(plain(freq), begin, day); ok != want || e != api.OK {
					t.Errorf("Fits(%d, %d, %d) = %v, %v, want %v", freq, begin, day, ok, e, want)
				}
			}
		}
	}
}

// Memory

// crowded returns a rule each list of which has two elements, and behind them spare capacity that holds something.
func crowded(t *testing.T) api.Rule {
	t.Helper()
	r := rule(t, "YEARLY;INTERVAL=2;UNTIL=20301231;BYSECOND=1,2;BYMINUTE=3,4;BYHOUR=5,6;BYDAY=SU,MO;BYMONTHDAY=-1,15;BYYEARDAY=-47,319;BYWEEKNO=-8,46;BYMONTH=2,11;BYSETPOS=-1,1;WKST=SU")
	for _, list := range numberLists(&r) {
		*list = append(*list, 7, 8, 9)[:2]
	}
	r.Day = append(r.Day, api.Weekday{Nth: 3, Day: 3})[:2]
	return r
}

func numberLists(r *api.Rule) []*[]int {
	return []*[]int{&r.Second, &r.Minute, &r.Hour, &r.MonthDay, &r.YearDay, &r.Week, &r.Month, &r.Position}
}

func TestRuleIsUnchanged(t *testing.T) {
	r, as := crowded(t), crowded(t)
	for day := november - 800; day < november+800; day++ {
		match.Period(r, november, day)
		match.Fits(r, november, day)
		match.Span(r, november, day-november)
	}
	if ok, e := match.Fits(r, november, november); !ok || e != api.OK {
		t.Errorf("the begin does not fit: %v, %v", ok, e)
	}
	if !recur.Equal(r, as) || !slices.Equal(r.Day[:3], as.Day[:3]) {
		t.Errorf("the rule has become %+v, from %+v", r, as)
	}
	for i, list := range numberLists(&r) {
		if before := *numberLists(&as)[i]; !slices.Equal((*list)[:5], before[:5]) {
			t.Errorf("list %d has become %v, from %v", i, (*list)[:5], before[:5])
		}
	}
}
