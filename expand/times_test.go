package expand_test

import (
	"math"
	"slices"
	"testing"

	"tryst/api"
	"tryst/expand"
	"tryst/match"
)

// A row says which times a period has.
type row struct {
	rule, begin string
	period      int
	want        string
}

// check checks that the period has exactly those times, by Times and, if it is not too far, by the second way, which goes
// through all days before it.
func (w row) check(t *testing.T) {
	t.Helper()
	r, begin, want := rule(t, w.rule), at(w.begin), moments(w.want)
	if got, e := expand.Times(r, begin, w.period); !slices.Equal(got, want) || e != api.OK {
		t.Errorf("Times(%s, %s, %d) = %s, %v, want %s", w.rule, w.begin, w.period, shown(got), e, w.want)
	}
	if w.period > 1001 {
		return
	}
	if got := wantedTimes(r, begin, w.period); !slices.Equal(got, want) {
		t.Errorf("%s with the begin %s: by the second way period %d has %s, want %s", w.rule, w.begin, w.period, shown(got), w.want)
	}
}

func checkRows(t *testing.T, rows []row) {
	t.Helper()
	for _, w := range rows {
		w.check(t)
	}
}

// checkNone checks that the period has no times.
func checkNone(t *testing.T, r api.Rule, begin int64, period int) {
	t.Helper()
	if l, e := expand.Times(r, begin, period); len(l) != 0 || e != api.OK {
		t.Errorf("Times(%s, %d, %d) = %v, %v, want none", printed(r), begin, period, l, e)
	}
}

func TestEachFrequency(t *testing.T) {
	checkRows(t, []row{
		{"DAILY", "20261115T100000", 0, "20261115T100000"},
		{"DAILY", "20261115T100000", 1, "20261116T100000"},
		{"DAILY", "20261115T100000", 46, "20261231T100000"},
		{"WEEKLY", "20261111T100000", 0, "20261111T100000"},
		{"WEEKLY", "20261111T100000", 3, "20261202T100000"},
		{"MONTHLY", "20261115T100000", 0, "20261115T100000"},
		{"MONTHLY", "20261115T100000", 2, "20270115T100000"},
		{"MONTHLY", "20261031T100000", 1, ""},
		{"MONTHLY", "20261031T100000", 2, "20261231T100000"},
		{"YEARLY", "20261115T100000", 0, "20261115T100000"},
		{"YEARLY", "20261115T100000", 74, "21001115T100000"},
		{"YEARLY", "20240229T100000", 3, ""},
		{"YEARLY", "20240229T100000", 4, "20280229T100000"},
	})
}

func TestTimesBeforeBegin(t *testing.T) {
	checkRows(t, []row{
		{"DAILY;BYHOUR=9,10,11", "20261115T100000", 0, "20261115T090000 100000 110000"},
		{"DAILY;BYHOUR=9", "20261115T100000", 0, "20261115T090000"},
		{"WEEKLY;BYDAY=MO,WE,SU", "20261111T100000", 0, "20261109T100000 20261111T100000 20261115T100000"},
		{"WEEKLY;BYDAY=MO,WE,SU;WKST=SU", "20261111T100000", 0, "20261108T100000 20261109T100000 20261111T100000"},
		{"WEEKLY;BYDAY=MO", "20261111T100000", 0, "20261109T100000"},
		{"MONTHLY;BYMONTHDAY=1,-1", "20261115T100000", 0, "20261101T100000 20261130T100000"},
		{"MONTHLY;BYMONTHDAY=1,-1", "20261115T100000", 1, "20261201T100000 20261231T100000"},
		{"YEARLY;BYYEARDAY=1,-1", "20261115T100000", 0, "20260101T100000 20261231T100000"},
		{"YEARLY;BYYEARDAY=1,-1", "20261115T100000", 1, "20270101T100000 20271231T100000"},
	})
}

func TestPeriodsThatCount(t *testing.T) {
	checkRows(t, []row{
		{"DAILY;INTERVAL=2", "20261115T100000", 1, ""},
		{"DAILY;INTERVAL=2", "20261115T100000", 2, "20261117T100000"},
		{"DAILY;INTERVAL=1000", "20261115T100000", 999, ""},
		{"DAILY;INTERVAL=1000", "20261115T100000", 1000, "20290811T100000"},
		{"DAILY;INTERVAL=1000", "20261115T100000", 1001, ""},
		{"WEEKLY;INTERVAL=2;BYDAY=MO,SU", "20261111T100000", 1, ""},
		{"WEEKLY;INTERVAL=2;BYDAY=MO,SU", "20261111T100000", 2, "20261123T100000 20261129T100000"},
		{"MONTHLY;INTERVAL=3", "20261115T100000", 2, ""},
		{"MONTHLY;INTERVAL=3", "20261115T100000", 3, "20270215T100000"},
		{"MONTHLY;INTERVAL=3", "20261115T100000", 4, ""},
		{"YEARLY;INTERVAL=5", "20261115T100000", 4, ""},
		{"YEARLY;INTERVAL=5", "20261115T100000", 5, "20311115T100000"},
	})
}

func TestNegativePeriods(t *testing.T) {
	for _, freq := range frequencies {
		r := plain(freq)
		for _, r.Interval = range []int{1, 2, 3, 1000} {
			for _, period := range []int{-1, -2, -3, -6, -1000, -2000, -3000, math.MinInt32, math.MinInt, math.MinInt + 1} {
				checkNone(t, r, november, period)
			}
		}
	}
	checkNone(t, rule(t, "MONTHLY;BYMONTHDAY=1,15"), november, -1)
	checkNone(t, rule(t, "WEEKLY;BYDAY=MO"), november, -1)
}

// TestFirstAndLastPeriod has the begin in the first or the last period that has days.
func TestFirstAndLastPeriod(t *testing.T) {
	checkRows(t, []row{
		{"DAILY;BYHOUR=0,23;BYMINUTE=0,59;BYSECOND=0,59", "00010101T000000", 0, "00010101T000000 000059 005900 005959 230000 230059 235900 235959"},
		{"DAILY;BYHOUR=0,23;BYMINUTE=0,59;BYSECOND=0,59", "99991231T235959", 0, "99991231T000000 000059 005900 005959 230000 230059 235900 235959"},
		{"DAILY", "00010101T000000", lastDay - 1, "99991231T000000"},
		{"DAILY", "00010101T000000", lastDay, ""},
		{"DAILY", "99991231T235959", 1, ""},
		// Day 1 is a Monday, and the last day is a Friday.
		{"WEEKLY;BYDAY=SU,MO,SA", "00010101T235959", 0, "00010101T235959 00010106T235959 00010107T235959"},
		{"WEEKLY;BYDAY=SU,MO,SA;WKST=SU", "00010101T235959", 0, "00010101T235959 00010106T235959"},
		{"WEEKLY;BYDAY=SU,MO,TU;WKST=TU", "00010101T235959", 0, "00010101T235959"},
		{"WEEKLY;BYDAY=SU,MO,FR", "99991231T235959", 0, "99991227T235959 99991231T235959"},
		{"WEEKLY;BYDAY=SU,TH,FR;WKST=FR", "99991231T235959", 0, "99991231T235959"},
		{"WEEKLY;BYDAY=FR", "00010101T000000", lastDay / 7, "99991231T000000"},
		{"WEEKLY;BYDAY=FR", "00010101T000000", lastDay/7 + 1, ""},
		{"MONTHLY;BYMONTHDAY=1,-1", "00010115T000000", 0, "00010101T000000 00010131T000000"},
		{"MONTHLY;BYMONTHDAY=1,-1", "00010115T000000", 9999*12 - 1, "99991201T000000 99991231T000000"},
		{"MONTHLY;BYMONTHDAY=1,-1", "00010115T000000", 9999 * 12, ""},
		{"YEARLY;BYYEARDAY=1,-1", "00010115T000000", 0, "00010101T000000 00011231T000000"},
		{"YEARLY;BYYEARDAY=1,-1", "00010115T000000", 9998, "99990101T000000 99991231T000000"},
		{"YEARLY;BYYEARDAY=1,-1", "00010115T000000", 9999, ""},
	})
	for _, freq := range frequencies {
		for _, begin := range []int64{firstValid, november, lastValid} {
			highest, _ := match.Period(plain(freq), int(begin/daySeconds), lastDay)
			for _, n := range []int{1, 2, 60, 1000000} {
				checkNone(t, plain(freq), begin, highest+n)
			}
		}
	}
}

func TestExtremePeriods(t *testing.T) {
	for _, freq := range frequencies {
		r := plain(freq)
		for _, r.Interval = range []int{1, 2, 7, 1000} {
			for _, begin := range []int64{firstValid, november, lastValid} {
				for _, period := range []int{math.MaxInt, math.MaxInt - 1, math.MaxInt32, math.MinInt, math.MinInt + 1, math.MinInt32, 1 << 62, -1 << 62} {
					checkNone(t, r, begin, period)
				}
			}
		}
	}
}

func TestNoDayFits(t *testing.T) {
	checkRows(t, []row{
		{"DAILY;BYMONTH=2;BYMONTHDAY=30", "20260228T100000", 0, ""},
		{"DAILY;BYMONTH=2", "20261115T100000", 0, ""},
		{"WEEKLY;BYMONTH=2;BYDAY=MO", "20261115T100000", 0, ""},
		{"MONTHLY;BYMONTHDAY=31;BYHOUR=1,2", "20261115T100000", 0, ""},
		{"MONTHLY;BYDAY=5MO,-5MO", "20261115T100000", 1, ""},
		{"YEARLY;BYMONTH=2;BYMONTHDAY=29", "20261115T100000", 0, ""},
		{"YEARLY;BYYEARDAY=366,-366", "20261115T100000", 1, ""},
		{"YEARLY;BYWEEKNO=53", "20271115T100000", 0, ""},
		{"YEARLY;BYMONTH=2;BYMONTHDAY=30;BYSETPOS=-1,1", "20261115T100000", 2, ""},
	})
}

func TestSecondsOfDay(t *testing.T) {
	checkRows(t, []row{
		{"DAILY", "20261115T235959", 1, "20261116T235959"},
		{"DAILY", "20261115T000000", 1, "20261116T000000"},
		{"DAILY", "20261115T010203", 1, "20261116T010203"},
		// Each list by itself.
		{"DAILY;BYHOUR=0,9,23", "20261115T010203", 0, "20261115T000203 090203 230203"},
		{"DAILY;BYMINUTE=0,9,59", "20261115T010203", 0, "20261115T010003 010903 015903"},
		{"DAILY;BYSECOND=0,9,59", "20261115T010203", 0, "20261115T010200 010209 010259"},
		// Two of them.
		{"DAILY;BYHOUR=0,23;BYMINUTE=0,59", "20261115T010203", 0, "20261115T000003 005903 230003 235903"},
		{"DAILY;BYHOUR=0,23;BYSECOND=0,59", "20261115T010203", 0, "20261115T000200 000259 230200 230259"},
		{"DAILY;BYMINUTE=0,59;BYSECOND=0,59", "20261115T010203", 0, "20261115T010000 010059 015900 015959"},
		// All of them.
		{"DAILY;BYHOUR=7;BYMINUTE=8;BYSECOND=9", "20261115T010203", 1, "20261116T070809"},
		{"DAILY;BYHOUR=7,8;BYMINUTE=8,9;BYSECOND=9,10", "20261115T010203", 1, "20261116T070809 070810 070909 070910 080809 080810 080909 080910"},
		// On several days.
		{"WEEKLY;BYDAY=TU,SU;BYHOUR=3,22", "20261115T010203", 1, "20261117T030203 220203 20261122T030203 220203"},
		{"MONTHLY;BYMONTHDAY=-1,1;BYSECOND=0,1", "20261115T010203", 1, "20261201T010200 010201 20261231T010200 010201"},
		{"YEARLY;BYMONTH=1,2;BYMINUTE=5,6", "20261115T010203", 1, "20270115T010503 010603 20270215T010503 010603"},
	})
}

// TestEachSecond has the lists contain every hour, and as many minutes and seconds as they may.
func TestEachSecond(t *testing.T) {
	r := plain(4)
	r.Month, r.MonthDay = []int{2}, []int{-1, 1}
	for n := range 24 {
		r.Hour = append(r.Hour, n)
	}
	for n := range 40 {
		r.Minute, r.Second = append(r.Minute, n), append(r.Second, 20+n)
	}
	want := wantedTimes(r, november, 1)
	if len(want) != 2*24*40*40 {
		t.Fatalf("by the second way there are %d", len(want))
	}
	if got, e := expand.Times(r, november, 1); !slices.Equal(got, want) || e != api.OK {
		t.Errorf("%d times, %v, want %d", len(got), e, len(want))
	}
	r.Position = []int{-366, -100, -1, 1, 2, 366}
	kept := []int64{want[0], want[1], want[365], want[len(want)-366], want[len(want)-100], want[len(want)-1]}
	if got, e := expand.Times(r, november, 1); !slices.Equal(got, kept) || e != api.OK {
		t.Errorf("at the positions are %s, %v, want %s", shown(got), e, shown(kept))
	}
}

func TestPosition(t *testing.T) {
	const three = "DAILY;BYHOUR=9,10,11;BYSETPOS="
	checkRows(t, []row{
		{three + "1", "20261115T100000", 0, "20261115T090000"},
		{three + "2", "20261115T100000", 0, "20261115T100000"},
		{three + "3", "20261115T100000", 0, "20261115T110000"},
		{three + "4", "20261115T100000", 0, ""},
		{three + "-1", "20261115T100000", 1, "20261116T110000"},
		{three + "-2", "20261115T100000", 1, "20261116T100000"},
		{three + "-3", "20261115T100000", 1, "20261116T090000"},
		{three + "-4", "20261115T100000", 1, ""},
		{three + "366,-366", "20261115T100000", 1, ""},
		// Back from the last one is also in ascending order.
		{three + "-1,1", "20261115T100000", 1, "20261116T090000 110000"},
		{three + "-3,-1,2", "20261115T100000", 1, "20261116T090000 100000 110000"},
		{three + "-366,-4,-2,4,366", "20261115T100000", 1, "20261116T100000"},
		// One that is met from both ends is there once.
		{three + "-2,2", "20261115T100000", 1, "20261116T100000"},
		{three + "-3,-2,-1,1,2,3", "20261115T100000", 1, "20261116T090000 100000 110000"},
		// Those before the begin are counted.
		{"WEEKLY;BYDAY=MO,WE,SU;BYSETPOS=1", "20261111T100000", 0, "20261109T100000"},
		{"WEEKLY;BYDAY=MO,WE,SU;BYSETPOS=2,-1", "20261111T100000", 0, "20261111T100000 20261115T100000"},
		{"MONTHLY;BYDAY=MO,TU,WE,TH,FR;BYSETPOS=-1", "20261115T100000", 0, "20261130T100000"},
		{"MONTHLY;BYDAY=MO,TU,WE,TH,FR;BYSETPOS=-1,1", "20261115T100000", 1, "20261201T100000 20261231T100000"},
		{"MONTHLY;BYMONTHDAY=1,2;BYHOUR=8,9;BYSETPOS=2,3", "20261115T100000", 1, "20261201T090000 20261202T080000"},
		{"MONTHLY;BYMONTHDAY=31;BYSETPOS=1,-1", "20261115T100000", 0, ""},
		{"YEARLY;BYMONTH=3,5;BYHOUR=8;BYSETPOS=-1", "20261115T100000", 0, "20260515T080000"},
		{"YEARLY;BYDAY=SU;BYSETPOS=1,52,53", "20261115T100000", 0, "20260104T100000 20261227T100000"},
		// A year with each of its days has 365 or 366 of them.
		{"YEARLY;BYDAY=SU,MO,TU,WE,TH,FR,SA;BYSETPOS=366", "20261115T100000", 0, ""},
		{"YEARLY;BYDAY=SU,MO,TU,WE,TH,FR,SA;BYSETPOS=-366", "20261115T100000", 2, "20280101T100000"},
		{"YEARLY;BYDAY=SU,MO,TU,WE,TH,FR,SA;BYSETPOS=-365,365", "20261115T100000", 2, "20280102T100000 20281230T100000"},
		// Only days of layer 1 are counted, in a week with others too.
		{"WEEKLY;BYDAY=SU,MO,TU,WE,TH,FR,SA;WKST=WE;BYSETPOS=1,-1,3", "00010101T000000", 0, "00010101T000000 00010102T000000"},
		{"WEEKLY;BYDAY=SU,MO,TU,WE,TH,FR,SA;WKST=TH;BYSETPOS=-1,3", "99991231T000000", 0, "99991231T000000"},
	})
}
