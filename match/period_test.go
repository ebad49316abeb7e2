package match_test

import (
	"math"
	"strings"
	"testing"

	"tryst/api"
	"tryst/match"
	"tryst/recur"
)

func checkPeriod(t *testing.T, r api.Rule, begin, day, want int) {
	t.Helper()
	if n, e := match.Period(r, begin, day); n != want || e != api.OK {
		t.Errorf("Period(%s, %d, %d) = %d, %v, want %d", printed(r), begin, day, n, e, want)
	}
}

func checkSpan(t *testing.T, r api.Rule, begin, period, first, last int) {
	t.Helper()
	if a, b, e := match.Span(r, begin, period); a != first || b != last || e != api.OK {
		t.Errorf("Span(%s, %d, %d) = %d, %d, %v, want %d, %d", printed(r), begin, period, a, b, e, first, last)
	}
}

// A span says which days are those of a period.
type span struct {
	period      int
	first, last string
}

// check checks the span, the period of each of its days, and those of the days beyond it.
func (s span) check(t *testing.T, r api.Rule, begin int) {
	t.Helper()
	first, last := on(s.first), on(s.last)
	checkSpan(t, r, begin, s.period, first, last)
	for day := first; day <= last; day++ {
		checkPeriod(t, r, begin, day, s.period)
	}
	if first > 1 {
		checkPeriod(t, r, begin, first-1, s.period-1)
	} else {
		checkNoSpan(t, r, begin, s.period-1, api.ErrRange)
	}
	if last < lastDay {
		checkPeriod(t, r, begin, last+1, s.period+1)
	} else {
		checkNoSpan(t, r, begin, s.period+1, api.ErrRange)
	}
}

// likeRule returns rules that have the periods of the rule with that text: an Interval, an end and lists do not
// matter.
func likeRule(t *testing.T, text string) []api.Rule {
	t.Helper()
	var rules []api.Rule
	for _, part := range []string{"", ";INTERVAL=2", ";INTERVAL=3;COUNT=1", ";INTERVAL=1000;BYMONTH=5", ";UNTIL=00010101;BYHOUR=1", ";BYDAY=TU;BYMONTH=1;BYSETPOS=-1"} {
		rules = append(rules, rule(t, text+part))
	}
	return rules
}

// checkSpans checks the spans with each of the begins, which are days of one period.
func checkSpans(t *testing.T, text, begins string, spans []span) {
	t.Helper()
	for _, r := range likeRule(t, text) {
		for _, begin := range days(begins) {
			for _, s := range spans {
				s.check(t, r, begin)
			}
		}
	}
}

func TestDays(t *testing.T) {
	checkSpans(t, "DAILY", "2026-11-15", []span{
		{0, "2026-11-15", "2026-11-15"}, {1, "2026-11-16", "2026-11-16"}, {-1, "2026-11-14", "2026-11-14"},
		{15, "2026-11-30", "2026-11-30"}, {16, "2026-12-01", "2026-12-01"}, {-15, "2026-10-31", "2026-10-31"},
		{46, "2026-12-31", "2026-12-31"}, {47, "2027-01-01", "2027-01-01"}, {-319, "2025-12-31", "2025-12-31"},
		{105, "2027-02-28", "2027-02-28"}, {106, "2027-03-01", "2027-03-01"},
		{470, "2028-02-28", "2028-02-28"}, {471, "2028-02-29", "2028-02-29"}, {472, "2028-03-01", "2028-03-01"}, {-990, "2024-02-29", "2024-02-29"},
		{-9756, "2000-02-29", "2000-02-29"}, {-46281, "1900-02-28", "1900-02-28"}, {-46280, "1900-03-01", "1900-03-01"},
		{-739934, "0001-01-01", "0001-01-01"}, {2912124, "9999-12-31", "9999-12-31"},
	})
	checkSpans(t, "DAILY", "0001-01-01", []span{{0, "0001-01-01", "0001-01-01"}, {1, "0001-01-02", "0001-01-02"}, {3652058, "9999-12-31", "9999-12-31"}})
	checkSpans(t, "DAILY", "9999-12-31", []span{{0, "9999-12-31", "9999-12-31"}, {-1, "9999-12-30", "9999-12-30"}, {-3652058, "0001-01-01", "0001-01-01"}})
	// The start of weeks does not matter.
	checkSpans(t, "DAILY;WKST=TH", "2026-11-15", []span{{0, "2026-11-15", "2026-11-15"}, {46, "2026-12-31", "2026-12-31"}})
}

func TestWeeksWithEachStart(t *testing.T) {
	for start, spans := range map[string][]span{
		"SU": {{0, "2026-11-15", "2026-11-21"}, {6, "2026-12-27", "2027-01-02"}, {67, "2028-02-27", "2028-03-04"}, {-142, "2024-02-25", "2024-03-02"}, {-3, "2026-10-25", "2026-10-31"}, {-105705, "0001-01-01", "0001-01-06"}, {416017, "9999-12-26", "9999-12-31"}},
		"MO": {{0, "2026-11-09", "2026-11-15"}, {7, "2026-12-28", "2027-01-03"}, {68, "2028-02-28", "2028-03-05"}, {-141, "2024-02-26", "2024-03-03"}, {-2, "2026-10-26", "2026-11-01"}, {-105704, "0001-01-01", "0001-01-07"}, {416018, "9999-12-27", "9999-12-31"}},
		"TU": {{0, "2026-11-10", "2026-11-16"}, {7, "2026-12-29", "2027-01-04"}, {68, "2028-02-29", "2028-03-06"}, {-141, "2024-02-27", "2024-03-04"}, {-2, "2026-10-27", "2026-11-02"}, {-105705, "0001-01-01", "0001-01-01"}, {416018, "9999-12-28", "9999-12-31"}},
		"WE": {{0, "2026-11-11", "2026-11-17"}, {7, "2026-12-30", "2027-01-05"}, {67, "2028-02-23", "2028-02-29"}, {-141, "2024-02-28", "2024-03-05"}, {-2, "2026-10-28", "2026-11-03"}, {-105705, "0001-01-01", "0001-01-02"}, {416018, "9999-12-29", "9999-12-31"}},
		"TH": {{0, "2026-11-12", "2026-11-18"}, {7, "2026-12-31", "2027-01-06"}, {67, "2028-02-24", "2028-03-01"}, {-141, "2024-02-29", "2024-03-06"}, {-2, "2026-10-29", "2026-11-04"}, {-105705, "0001-01-01", "0001-01-03"}, {416018, "9999-12-30", "9999-12-31"}},
		"FR": {{0, "2026-11-13", "2026-11-19"}, {6, "2026-12-25", "2026-12-31"}, {67, "2028-02-25", "2028-03-02"}, {-142, "2024-02-23", "2024-02-29"}, {-2, "2026-10-30", "2026-11-05"}, {-105705, "0001-01-01", "0001-01-04"}, {416018, "9999-12-31", "9999-12-31"}},
		"SA": {{0, "2026-11-14", "2026-11-20"}, {6, "2026-12-26", "2027-01-01"}, {67, "2028-02-26", "2028-03-03"}, {-142, "2024-02-24", "2024-03-01"}, {-2, "2026-10-31", "2026-11-06"}, {-105705, "0001-01-01", "0001-01-05"}, {416017, "9999-12-25", "9999-12-31"}},
	} {
		// The first span is that of the begin.
		for _, begin := range []string{spans[0].first, "2026-11-15", spans[0].last} {
			for _, r := range likeRule(t, "WEEKLY") {
				r.Start = strings.Index("SUMOTUWETHFRSA", start) / 2
				for _, s := range spans {
					s.check(t, r, on(begin))
				}
			}
		}
	}
}

func TestWeeksFromEitherEnd(t *testing.T) {
	checkSpans(t, "WEEKLY", "0001-01-01 0001-01-07", []span{{0, "0001-01-01", "0001-01-07"}, {1, "0001-01-08", "0001-01-14"}, {521722, "9999-12-27", "9999-12-31"}})
	checkSpans(t, "WEEKLY;WKST=TU", "0001-01-01", []span{{0, "0001-01-01", "0001-01-01"}, {1, "0001-01-02", "0001-01-08"}, {521723, "9999-12-28", "9999-12-31"}})
	checkSpans(t, "WEEKLY;WKST=SU", "0001-01-01 0001-01-06", []span{{0, "0001-01-01", "0001-01-06"}, {1, "0001-01-07", "0001-01-13"}, {521722, "9999-12-26", "9999-12-31"}})
	checkSpans(t, "WEEKLY", "9999-12-27 9999-12-31", []span{{0, "9999-12-27", "9999-12-31"}, {-1, "9999-12-20", "9999-12-26"}, {-521722, "0001-01-01", "0001-01-07"}})
	checkSpans(t, "WEEKLY;WKST=FR", "9999-12-31", []span{{0, "9999-12-31", "9999-12-31"}, {-1, "9999-12-24", "9999-12-30"}, {-521723, "0001-01-01", "0001-01-04"}})
}

func TestMonths(t *testing.T) {
	checkSpans(t, "MONTHLY", "2026-11-01 2026-11-15 2026-11-30", []span{
		{0, "2026-11-01", "2026-11-30"}, {1, "2026-12-01", "2026-12-31"}, {2, "2027-01-01", "2027-01-31"}, {3, "2027-02-01", "2027-02-28"},
		{14, "2028-01-01", "2028-01-31"}, {15, "2028-02-01", "2028-02-29"}, {16, "2028-03-01", "2028-03-31"},
		{-1, "2026-10-01", "2026-10-31"}, {-2, "2026-09-01", "2026-09-30"}, {-10, "2026-01-01", "2026-01-31"}, {-11, "2025-12-01", "2025-12-31"}, {-12, "2025-11-01", "2025-11-30"},
		{-33, "2024-02-01", "2024-02-29"}, {-321, "2000-02-01", "2000-02-29"}, {-1521, "1900-02-01", "1900-02-28"},
		{-24310, "0001-01-01", "0001-01-31"}, {-24309, "0001-02-01", "0001-02-28"}, {95676, "9999-11-01", "9999-11-30"}, {95677, "9999-12-01", "9999-12-31"},
	})
	// Layer 1 begins with a month and a year and ends with one, so that none is cut off.
	checkSpans(t, "MONTHLY", "0001-01-01 0001-01-31", []span{{0, "0001-01-01", "0001-01-31"}, {1, "0001-02-01", "0001-02-28"}, {119987, "9999-12-01", "9999-12-31"}})
	checkSpans(t, "MONTHLY", "9999-12-01 9999-12-31", []span{{0, "9999-12-01", "9999-12-31"}, {-1, "9999-11-01", "9999-11-30"}, {-119987, "0001-01-01", "0001-01-31"}})
	checkSpans(t, "MONTHLY", "2028-02-29", []span{{0, "2028-02-01", "2028-02-29"}, {1, "2028-03-01", "2028-03-31"}, {12, "2029-02-01", "2029-02-28"}})
}

func TestYears(t *testing.T) {
	checkSpans(t, "YEARLY", "2026-01-01 2026-11-15 2026-12-31", []span{
		{0, "2026-01-01", "2026-12-31"}, {1, "2027-01-01", "2027-12-31"}, {2, "2028-01-01", "2028-12-31"}, {3, "2029-01-01", "2029-12-31"},
		{-1, "2025-01-01", "2025-12-31"}, {-2, "2024-01-01", "2024-12-31"}, {-26, "2000-01-01", "2000-12-31"}, {-126, "1900-01-01", "1900-12-31"}, {74, "2100-01-01", "2100-12-31"},
		{-2025, "0001-01-01", "0001-12-31"}, {7973, "9999-01-01", "9999-12-31"},
	})
	checkSpans(t, "YEARLY", "0001-01-01 0001-12-31", []span{{0, "0001-01-01", "0001-12-31"}, {1, "0002-01-01", "0002-12-31"}, {9998, "9999-01-01", "9999-12-31"}})
	checkSpans(t, "YEARLY", "9999-01-01 9999-12-31", []span{{0, "9999-01-01", "9999-12-31"}, {-1, "9998-01-01", "9998-12-31"}, {-9998, "0001-01-01", "0001-12-31"}})
	checkSpans(t, "YEARLY", "2028-02-29", []span{{0, "2028-01-01", "2028-12-31"}, {1, "2029-01-01", "2029-12-31"}, {-28, "2000-01-01", "2000-12-31"}})
	// The weeks of a year do not matter.
	checkSpans(t, "YEARLY;BYWEEKNO=1", "2026-12-31", []span{{0, "2026-01-01", "2026-12-31"}, {1, "2027-01-01", "2027-12-31"}})
}

// farPeriods are periods that have no day; with arithmetic that wraps round, some of them could seem to have one.
func farPeriods() []int {
	far := []int{math.MinInt64, math.MinInt64 + 1, math.MaxInt64 - 1, math.MaxInt64, math.MinInt32, math.MaxInt32, lastDay, lastDay + 1, -lastDay, -lastDay - 1}
	for _, n := range []int{math.MaxInt64, math.MinInt64} {
		far = append(far, n/7, n/7+1, n/7-1, n/12, n/12+1, n/12-1, n/31, n/365, n/366, n-november, n+november, n-lastDay, n+lastDay)
	}
	// seventh times 7 is 1 if the product wraps round, so that these weeks would begin on days around n.
	const seventh = 7905747460161236407
	for n := 700001; n < 700007; n++ {
		far = append(far, n*seventh, n*seventh-november/7)
	}
	for bit := 32; bit < 63; bit++ {
		for _, n := range []int{0, 1, -1, 7, 12, 1000} {
			far = append(far, 1<<bit+n, -1<<bit+n)
		}
	}
	return far
}

func TestFarPeriods(t *testing.T) {
	for _, period := range farPeriods() {
		for _, freq := range frequencies {
			for _, begin := range []int{1, 2, 31, november, lastDay - 1, lastDay} {
				for start := range 7 {
					r := plain(freq)
					r.Start = start
					checkNoSpan(t, r, begin, period, api.ErrRange)
				}
			}
		}
	}
}

// TestFirstAndLastPeriod looks for the periods next to the last ones that have days, for each frequency and start of
// weeks and for several begins.
func TestFirstAndLastPeriod(t *testing.T) {
	for _, freq := range frequencies {
		for start := range 7 {
			r := plain(freq)
			r.Start = start
			for _, begin := range []int{1, 5, 8, november, lastDay - 7, lastDay - 1, lastDay} {
				lowest, _ := match.Period(r, begin, 1)
				highest, _ := match.Period(r, begin, lastDay)
				if first, _, e := match.Span(r, begin, lowest); first != 1 || e != api.OK {
					t.Errorf("Span(%s, %d, %d) begins with %d, %v, want 1", printed(r), begin, lowest, first, e)
				}
				if _, last, e := match.Span(r, begin, highest); last != lastDay || e != api.OK {
					t.Errorf("Span(%s, %d, %d) ends with %d, %v, want %d", printed(r), begin, highest, last, e, lastDay)
				}
				for n := 1; n <= 60; n++ {
					checkNoSpan(t, r, begin, lowest-n, api.ErrRange)
					checkNoSpan(t, r, begin, highest+n, api.ErrRange)
				}
			}
		}
	}
}

// TestEachSpanFollows goes through all periods: each begins on the day behind the one before it.
func TestEachSpanFollows(t *testing.T) {
	for _, freq := range []int{recur.Weekly, recur.Monthly, recur.Yearly} {
		r := plain(freq)
		next := 1
		for period, _ := match.Period(r, november, 1); next <= lastDay; period++ {
			first, last, e := match.Span(r, november, period)
			if first != next || last < first || e != api.OK {
				t.Fatalf("Span(%s, %d, %d) = %d, %d, %v, want it to begin with %d", printed(r), november, period, first, last, e, next)
			}
			checkPeriod(t, r, november, first, period)
			checkPeriod(t, r, november, last, period)
			next = last + 1
		}
	}
}
