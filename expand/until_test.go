package expand_test

import (
	"math"
	"slices"
	"testing"

	"tryst/api"
	"tryst/expand"
)

// ever is a last that no time reaches, and all is as many elements as there may be.
const (
	ever = math.MaxInt64
	all  = math.MaxInt
)

// A stretch says what an expansion is.
type stretch struct{ rule, begin, last, want string }

// check checks that the expansion up to last is that, by Until and by the second way, for each most.
func (w stretch) check(t *testing.T) {
	t.Helper()
	r, begin, want := rule(t, w.rule), at(w.begin), moments(w.want)
	last := int64(ever)
	if w.last != "" {
		last = at(w.last)
	}
	checkUntil(t, r, begin, last, want)
	if w.last == "" {
		return
	}
	if got := wantedUntil(r, begin, last); !slices.Equal(got, want) {
		t.Errorf("%s with the begin %s: by the second way there are %s, want %s", w.rule, w.begin, shown(got), w.want)
	}
}

// checkUntil checks that the expansion up to last is that, for each most.
func checkUntil(t *testing.T, r api.Rule, begin, last int64, want []int64) {
	t.Helper()
	n := len(want)
	mosts := []int{0, 1, n / 2, max(n-1, 0), n, n + 1, all}
	slices.Sort(mosts)
	for _, most := range slices.Compact(mosts) {
		k := min(most, n)
		if got, more, e := expand.Until(r, begin, last, most); !slices.Equal(got, want[:k]) || more != (n > most) || e != api.OK {
			t.Errorf("Until(%s, %s, %d, %d) = %s, %v, %v, want %s and more: %v", printed(r), shown([]int64{begin}), last, most, shown(got), more, e, shown(want[:k]), n > most)
		}
	}
}

func checkStretches(t *testing.T, stretches []stretch) {
	t.Helper()
	for _, w := range stretches {
		w.check(t)
	}
}

func TestExample(t *testing.T) {
	checkStretches(t, []stretch{
		{"DAILY;COUNT=3", "20261115T100000", "", "20261115T100000 20261116T100000 20261117T100000"},
		{"DAILY;COUNT=3", "20261115T100000", "20270101T000000", "20261115T100000 20261116T100000 20261117T100000"},
	})
}

func TestWithoutEnd(t *testing.T) {
	checkStretches(t, []stretch{
		{"DAILY", "20261115T100000", "20261118T235959", "20261115T100000 20261116T100000 20261117T100000 20261118T100000"},
		{"DAILY;INTERVAL=10", "20261115T100000", "20261210T000000", "20261115T100000 20261125T100000 20261205T100000"},
		{"WEEKLY", "20261115T100000", "20261201T000000", "20261115T100000 20261122T100000 20261129T100000"},
		{"WEEKLY;INTERVAL=2;BYDAY=MO,SU", "20261115T100000", "20261207T235959", "20261115T100000 20261123T100000 20261129T100000 20261207T100000"},
		{"WEEKLY;INTERVAL=2;BYDAY=MO,SU;WKST=SU", "20261115T100000", "20261207T235959", "20261115T100000 20261116T100000 20261129T100000 20261130T100000"},
		{"MONTHLY", "20261031T100000", "20270601T000000", "20261031T100000 20261231T100000 20270131T100000 20270331T100000 20270531T100000"},
		{"MONTHLY;BYDAY=-1FR", "20261115T100000", "20270101T000000", "20261115T100000 20261127T100000 20261225T100000"},
		{"YEARLY", "20240229T100000", "20350101T000000", "20240229T100000 20280229T100000 20320229T100000"},
		{"YEARLY;BYWEEKNO=53", "20261115T100000", "20330101T000000", "20261115T100000"},
		{"YEARLY;BYWEEKNO=53;BYDAY=MO", "20261115T100000", "20330101T000000", "20261115T100000 20261228T100000 20321227T100000"},
	})
}

// TestBeginThatIsNoTime: the begin is there also if it is none of the rule's times, and what is before it is not.
func TestBeginThatIsNoTime(t *testing.T) {
	checkStretches(t, []stretch{
		{"DAILY;BYHOUR=9,11", "20261115T100000", "20261116T100000", "20261115T100000 110000 20261116T090000"},
		{"DAILY;BYHOUR=9,10,11", "20261115T100000", "20261116T090000", "20261115T100000 110000 20261116T090000"},
		{"DAILY;BYHOUR=9", "20261115T100000", "20261116T090000", "20261115T100000 20261116T090000"},
		{"DAILY;BYSECOND=0,1", "20261115T100001", "20261116T100000", "20261115T100001 20261116T100000"},
		{"DAILY;BYSECOND=0,2", "20261115T100001", "20261116T100000", "20261115T100001 100002 20261116T100000"},
		{"WEEKLY;BYDAY=TU", "20261115T100000", "20261124T100000", "20261115T100000 20261117T100000 20261124T100000"},
		{"WEEKLY;BYDAY=MO", "20261111T100000", "20261116T100000", "20261111T100000 20261116T100000"},
		{"MONTHLY;BYMONTHDAY=1", "20261115T100000", "20261231T100000", "20261115T100000 20261201T100000"},
		{"YEARLY;BYYEARDAY=1", "20261115T100000", "20271231T100000", "20261115T100000 20270101T100000"},
		{"YEARLY;BYMONTH=2;BYMONTHDAY=29", "20261115T100000", "20320101T000000", "20261115T100000 20280229T100000"},
	})
}

func TestUntilOfRule(t *testing.T) {
	const three = "20261115T100000 20261116T100000 20261117T100000"
	checkStretches(t, []stretch{
		// A date, and a date's last second.
		{"DAILY;UNTIL=20261117", "20261115T100000", "", three},
		{"DAILY;UNTIL=20261117", "20261115T235959", "", "20261115T235959 20261116T235959 20261117T235959"},
		{"DAILY;UNTIL=20261117", "20261115T000000", "", "20261115T000000 20261116T000000 20261117T000000"},
		{"DAILY;UNTIL=20261117;BYHOUR=0,23;BYMINUTE=0,59;BYSECOND=0,59", "20261117T120000", "", "20261117T120000 230000 230059 235900 235959"},
		{"DAILY;UNTIL=99991231", "99991230T235959", "", "99991230T235959 99991231T235959"},
		// A time: of the rule, one second before it and after it.
		{"DAILY;UNTIL=20261117T100000", "20261115T100000", "", three},
		{"DAILY;UNTIL=20261117T095959", "20261115T100000", "", three[:31]},
		{"DAILY;UNTIL=20261117T100001", "20261115T100000", "", three},
		{"DAILY;UNTIL=20261117T000000", "20261115T100000", "", three[:31]},
		{"DAILY;UNTIL=20261117T100000Z", "20261115T100000", "", three},
		{"DAILY;UNTIL=20261117T095959Z", "20261115T100000", "", three[:31]},
		{"DAILY;UNTIL=20261117T100001Z", "20261115T100000", "", three},
		{"MONTHLY;BYDAY=-1FR;UNTIL=20270101", "20261115T100000", "", "20261115T100000 20261127T100000 20261225T100000"},
		// Before the begin, which is kept always.
		{"DAILY;UNTIL=20261114", "20261115T100000", "", "20261115T100000"},
		{"DAILY;UNTIL=00010101", "20261115T100000", "", "20261115T100000"},
		{"DAILY;UNTIL=20261115T095959", "20261115T100000", "", "20261115T100000"},
		{"DAILY;UNTIL=20261115T100000Z", "20261115T100000", "", "20261115T100000"},
		{"DAILY;BYHOUR=9,11;UNTIL=20261115", "20261115T100000", "", "20261115T100000 110000"},
		{"DAILY;BYHOUR=9,11;UNTIL=20261115T105959", "20261115T100000", "", "20261115T100000"},
		{"WEEKLY;BYDAY=MO,WE,SU;UNTIL=20261112", "20261111T100000", "", "20261111T100000"},
		// Whichever of last and Until is earlier.
		{"DAILY;UNTIL=20261117", "20261115T100000", "20261116T100000", three[:31]},
		{"DAILY;UNTIL=20261117", "20261115T100000", "20261117T095959", three[:31]},
		{"DAILY;UNTIL=20261117", "20261115T100000", "20261117T100000", three},
		{"DAILY;UNTIL=20261116", "20261115T100000", "20261120T100000", three[:31]},
		{"DAILY;UNTIL=20261114", "20261115T100000", "20261114T100000", ""},
		{"DAILY;UNTIL=20261114", "20261115T100000", "20261115T100000", "20261115T100000"},
	})
}

func TestCount(t *testing.T) {
	checkStretches(t, []stretch{
		{"DAILY;COUNT=1", "20261115T100000", "", "20261115T100000"},
		{"DAILY;COUNT=2", "20261115T100000", "", "20261115T100000 20261116T100000"},
		{"DAILY;COUNT=2;INTERVAL=1000", "20261115T100000", "", "20261115T100000 20290811T100000"},
		{"DAILY;COUNT=3", "20261115T100000", "20261116T100000", "20261115T100000 20261116T100000"},
		{"DAILY;COUNT=3", "20261115T100000", "20261114T100000", ""},
		// The begin counts as the first one, also if it is no time of the rule.
		{"DAILY;COUNT=1;BYHOUR=9", "20261115T100000", "", "20261115T100000"},
		{"DAILY;COUNT=3;BYHOUR=9,11", "20261115T100000", "", "20261115T100000 110000 20261116T090000"},
		{"WEEKLY;COUNT=3;BYDAY=TU,TH", "20261115T100000", "", "20261115T100000 20261117T100000 20261119T100000"},
		{"WEEKLY;COUNT=3;BYDAY=MO,WE,SU", "20261111T100000", "", "20261111T100000 20261115T100000 20261116T100000"},
		{"MONTHLY;COUNT=3;BYDAY=MO,TU,WE,TH,FR;BYSETPOS=-1", "20261115T100000", "", "20261115T100000 20261130T100000 20261231T100000"},
		{"MONTHLY;COUNT=4;BYMONTHDAY=1,20;BYHOUR=8,10;BYSETPOS=-1,2", "20261120T080000", "", "20261120T080000 100000 20261201T100000 20261220T100000"},
		// More than there are.
		{"DAILY;COUNT=1000", "99991230T100000", "", "99991230T100000 99991231T100000"},
		{"DAILY;COUNT=1000;BYMONTH=2;BYMONTHDAY=30", "20261115T100000", "", "20261115T100000"},
		{"YEARLY;COUNT=9;INTERVAL=1000", "70261115T100000", "", "70261115T100000 80261115T100000 90261115T100000"},
	})
	r := rule(t, "DAILY;COUNT=1000")
	if l, more, e := expand.Until(r, november, ever, all); len(l) != 1000 || l[999] != november+999*daySeconds || more || e != api.OK {
		t.Errorf("with a Count of 1000 there are %d, %v, %v", len(l), more, e)
	}
}

func TestPositionInExpansion(t *testing.T) {
	checkStretches(t, []stretch{
		{"MONTHLY;BYDAY=MO,TU,WE,TH,FR;BYSETPOS=-1", "20261115T100000", "20270105T100000", "20261115T100000 20261130T100000 20261231T100000"},
		// What is before the begin is counted, though it is not in the expansion.
		{"WEEKLY;BYDAY=MO,WE,SU;BYSETPOS=1", "20261111T100000", "20261118T100000", "20261111T100000 20261116T100000"},
		{"WEEKLY;BYDAY=MO,WE,SU;BYSETPOS=3", "20261111T100000", "20261118T100000", "20261111T100000 20261115T100000"},
		{"WEEKLY;BYDAY=MO,WE,SU;BYSETPOS=2", "20261111T100000", "20261118T100000", "20261111T100000 20261118T100000"},
		{"DAILY;BYHOUR=9,10,11;BYSETPOS=-3,-2", "20261115T100000", "20261116T120000", "20261115T100000 20261116T090000 100000"},
	})
}

func TestLast(t *testing.T) {
	const rule = "WEEKLY;BYDAY=TU"
	checkStretches(t, []stretch{
		{rule, "20261115T100000", "00010101T000000", ""},
		{rule, "20261115T100000", "20261115T095959", ""},
		{rule, "20261115T100000", "20261115T100000", "20261115T100000"},
		{rule, "20261115T100000", "20261115T100001", "20261115T100000"},
		{rule, "20261115T100000", "20261117T095959", "20261115T100000"},
		{rule, "20261115T100000", "20261117T100000", "20261115T100000 20261117T100000"},
		{rule, "20261115T100000", "20261117T100001", "20261115T100000 20261117T100000"},
		{rule, "99991224T100000", "99991231T235959", "99991224T100000 99991228T100000"},
		{rule, "99991224T100000", "", "99991224T100000 99991228T100000"},
	})
}

func TestExtremeLast(t *testing.T) {
	for _, freq := range frequencies {
		r := plain(freq)
		for _, last := range []int64{math.MinInt64, math.MinInt64 + 1, math.MinInt32, -1, 0, firstValid - 1, november - 1} {
			checkUntil(t, r, november, last, nil)
		}
		for _, last := range []int64{lastValid, lastValid + 1, 1 << 40, math.MaxInt64 - daySeconds, math.MaxInt64 - 1, math.MaxInt64} {
			checkUntil(t, r, lastValid, last, []int64{lastValid})
		}
	}
	two := []int64{lastValid - 7*daySeconds, lastValid}
	for _, last := range []int64{lastValid, lastValid + 1, 1 << 40, math.MaxInt64 - 1, math.MaxInt64} {
		checkUntil(t, rule(t, "WEEKLY"), two[0], last, two)
	}
	checkUntil(t, rule(t, "WEEKLY"), two[0], lastValid-1, two[:1])
}

// TestWithoutMore has rules none of whose days ever fits.
func TestWithoutMore(t *testing.T) {
	for _, s := range []string{
		"DAILY;BYMONTH=2;BYMONTHDAY=30", "DAILY;BYMONTH=4,6,9,11;BYMONTHDAY=31", "DAILY;INTERVAL=1000;BYMONTH=2;BYMONTHDAY=30",
		"WEEKLY;BYDAY=MO;BYSETPOS=2", "WEEKLY;BYMONTH=2;BYSETPOS=-366", "WEEKLY;INTERVAL=1000;BYDAY=SU,SA;BYSETPOS=3",
		"MONTHLY;BYMONTH=2;BYMONTHDAY=30,31", "MONTHLY;BYMONTHDAY=1;BYDAY=2MO", "MONTHLY;INTERVAL=1000;BYDAY=6MO", "MONTHLY;BYHOUR=1,2;BYSETPOS=3",
		"YEARLY;BYMONTH=2;BYMONTHDAY=30", "YEARLY;BYYEARDAY=366;BYMONTHDAY=1", "YEARLY;BYWEEKNO=2;BYMONTH=12", "YEARLY;INTERVAL=1000;BYMONTH=2;BYMONTHDAY=-30",
	} {
		for _, begin := range []int64{november, firstValid, lastValid} {
			checkUntil(t, rule(t, s), begin, ever, []int64{begin})
		}
	}
	// These would have others with another begin.
	for _, s := range []string{"DAILY;INTERVAL=7;BYDAY=MO", "MONTHLY;INTERVAL=12;BYMONTH=10", "YEARLY;INTERVAL=4;BYMONTH=2;BYMONTHDAY=29"} {
		checkUntil(t, rule(t, s), november, ever, []int64{november})
	}
}

// TestFarAhead has rules whose next time is many years ahead.
func TestFarAhead(t *testing.T) {
	checkStretches(t, []stretch{
		{"YEARLY;INTERVAL=1000;BYMONTH=2;BYMONTHDAY=29", "10000228T100000", "", "10000228T100000 20000229T100000 40000229T100000 60000229T100000 80000229T100000"},
		{"YEARLY;INTERVAL=1000", "20000229T100000", "", "20000229T100000 40000229T100000 60000229T100000 80000229T100000"},
		{"YEARLY;INTERVAL=999", "16040229T100000", "", "16040229T100000 56000229T100000 95960229T100000"},
		{"YEARLY;INTERVAL=25", "16000229T100000", "60000228T000000", "16000229T100000 20000229T100000 24000229T100000 28000229T100000 32000229T100000 36000229T100000 40000229T100000 44000229T100000 48000229T100000 52000229T100000 56000229T100000"},
		{"YEARLY;BYMONTH=2;BYMONTHDAY=29", "18960229T100000", "19080228T100000", "18960229T100000 19040229T100000"},
		{"MONTHLY;INTERVAL=1000;BYMONTHDAY=29;BYMONTH=2", "17000201T100000", "", "17000201T100000 32000229T100000 52000229T100000 72000229T100000 92000229T100000"},
		{"MONTHLY;INTERVAL=600", "20000229T100000", "31000101T000000", "20000229T100000 24000229T100000 28000229T100000"},
	})
}

// TestAllYears expands rules from the first day to the last one.
func TestAllYears(t *testing.T) {
	for _, c := range []struct {
		rule string
		n    int
		last string
	}{
		{"DAILY;INTERVAL=50", 73042, "99991223T000000"},
		{"WEEKLY", 521723, "99991227T000000"},
		{"MONTHLY", 9999 * 12, "99991201T000000"},
		{"YEARLY", 9999, "99990101T000000"},
		// The begin, and each leap day.
		{"YEARLY;BYMONTH=2;BYMONTHDAY=29", 1 + 2424, "99960229T000000"},
	} {
		got, more, e := expand.Until(rule(t, c.rule), firstValid, ever, all)
		if len(got) != c.n || more || e != api.OK || shown(got[len(got)-1:]) != c.last || !slices.IsSorted(got) {
			t.Errorf("%s has %d, %v, %v, the last one %s, want %d, %s", c.rule, len(got), more, e, shown(got[len(got)-1:]), c.n, c.last)
		}
	}
}

// TestPrefix checks that the beginning of an expansion does not change with a later last or a greater most.
func TestPrefix(t *testing.T) {
	for _, s := range []string{"DAILY;BYHOUR=3,9,10", "WEEKLY;BYDAY=MO,SA;COUNT=25", "MONTHLY;BYDAY=-1FR,2MO", "YEARLY;BYWEEKNO=1,53;BYDAY=SU,TH", "YEARLY;BYMONTH=1,5;BYSETPOS=-1;UNTIL=20400101"} {
		r := rule(t, s)
		whole, _, _ := expand.Until(r, november, november+5000*daySeconds, all)
		for days := int64(0); days < 5000; days += 137 {
			last := november + days*daySeconds + days%3 - 1
			var want []int64
			for _, at := range whole {
				if at <= last {
					want = append(want, at)
				}
			}
			checkUntil(t, r, november, last, want)
		}
	}
}
