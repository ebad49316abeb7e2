package zone_test

import (
	"math"
	"slices"
	"strings"
	"testing"
	"time"

	"tryst/api"
	"tryst/recur"
	"tryst/zone"
)

const (
	daySeconds = 86400
	firstValid = daySeconds
	lastValid  = (3652059+1)*daySeconds - 1
	// unix is where Go's own seconds begin.
	unix = 719163 * daySeconds
	hour = 3600
	// november is 2026-11-15 at 10:00:00.
	november = 739935*daySeconds + 36000
)

// at returns the seconds of a time such as 20261115T100000, by Go's own calendar.
func at(word string) int64 {
	parsed, err := time.Parse("20060102T150405", word)
	if err != nil {
		panic(err)
	}
	return parsed.Unix() + unix
}

// shown returns the text of the seconds.
func shown(at int64) string {
	return time.Unix(at-unix, 0).UTC().Format("20060102T150405")
}

// rule returns the yearly rule with that text behind FREQ=YEARLY.
func rule(s string) api.Rule {
	r, e := recur.Parse("FREQ=YEARLY;" + s)
	if e != api.OK {
		panic(s)
	}
	return r
}

// once returns an observance that does not recur.
func once(start string, from, to int, more ...string) zone.Observance {
	o := zone.Observance{Start: at(start), From: from, To: to}
	for _, m := range more {
		o.More = append(o.More, at(m))
	}
	return o
}

// yearly returns an observance that recurs by the rule.
func yearly(start string, from, to int, r string) zone.Observance {
	return zone.Observance{Start: at(start), From: from, To: to, Again: true, Rule: rule(r)}
}

// zoneOf returns the zone with these observances.
func zoneOf(list ...zone.Observance) zone.Zone {
	return zone.Zone{Name: "X", L: list}
}

// oslo has its clocks set forward on the last Sunday of March and back on that of October.
func oslo() zone.Zone {
	return zone.Zone{Name: "Europe/Oslo", L: []zone.Observance{
		yearly("19960331T020000", hour, 2*hour, "BYDAY=-1SU;BYMONTH=3"),
		yearly("19961027T030000", 2*hour, hour, "BYDAY=-1SU;BYMONTH=10"),
	}}
}

// sydney has its clocks set forward in October and back in April.
func sydney() zone.Zone {
	return zone.Zone{Name: "Australia/Sydney", L: []zone.Observance{
		yearly("20080406T030000", 11*hour, 10*hour, "BYDAY=1SU;BYMONTH=4"),
		yearly("20081005T020000", 10*hour, 11*hour, "BYDAY=1SU;BYMONTH=10"),
	}}
}

// fixed has one offset at all times.
func fixed(offset int) zone.Zone {
	return zoneOf(once("20200101T000000", offset, offset))
}

// manyObservances returns a zone with n observances.
func manyObservances(n int) zone.Zone {
	return zone.Zone{Name: "X", L: slices.Repeat(fixed(hour).L, n)}
}

// manyStarts returns a zone with an observance with n further starts.
func manyStarts(n int) zone.Zone {
	o := once("20200101T000000", 0, hour)
	o.More = slices.Repeat([]int64{november}, n)
	return zoneOf(o)
}

// changed returns a zone whose second observance is changed.
func changed(change func(o *zone.Observance)) zone.Zone {
	z := oslo()
	change(&z.L[1])
	return z
}

// ruled returns a zone with an observance that recurs by the rule after a change.
func ruled(change func(r *api.Rule)) zone.Zone {
	return changed(func(o *zone.Observance) { change(&o.Rule) })
}

// named returns a zone with that name.
func named(s string) zone.Zone {
	z := oslo()
	z.Name = s
	return z
}

// A labelled zone is one of a table.
type labelled struct {
	label string
	z     zone.Zone
}

func validZones() []labelled {
	return []labelled{
		{"Oslo", oslo()}, {"Sydney", sydney()}, {"fixed", fixed(0)},
		{"name of one letter", named("a")}, {"name of sixty letters", named(strings.Repeat("Z", 60))}, {"name with signs", named("/_-+09azAZ")},
		{"20 observances", manyObservances(20)}, {"60 starts", manyStarts(60)},
		{"first start", changed(func(o *zone.Observance) { o.Start = firstValid })},
		{"last start", changed(func(o *zone.Observance) { o.Start = lastValid })},
		{"first and last further start", changed(func(o *zone.Observance) { o.More = []int64{lastValid, firstValid, lastValid} })},
		{"least offsets", changed(func(o *zone.Observance) { o.From, o.To = -86399, -86399 })},
		{"greatest offsets", changed(func(o *zone.Observance) { o.From, o.To = 86399, 86399 })},
		{"the 31st", ruled(func(r *api.Rule) { *r = rule("BYMONTH=12;BYMONTHDAY=31") })},
		{"the 31st from the end", ruled(func(r *api.Rule) { *r = rule("BYMONTH=1;BYMONTHDAY=-31") })},
		{"February 30", ruled(func(r *api.Rule) { *r = rule("BYMONTH=2;BYMONTHDAY=30") })},
		{"weekday 53", ruled(func(r *api.Rule) { *r = rule("BYMONTH=1;BYDAY=53SA") })},
		{"weekday -53", ruled(func(r *api.Rule) { *r = rule("BYMONTH=1;BYDAY=-53SU") })},
		{"weeks begin on Saturday", ruled(func(r *api.Rule) { *r = rule("BYMONTH=1;BYDAY=1SU;WKST=SA") })},
		{"rule that isn't used", changed(func(o *zone.Observance) {
			o.Again, o.Rule = false, api.Rule{Freq: 9, Interval: -1, Until: api.Time{Kind: 7}}
		})},
		{"daily rule that isn't used", changed(func(o *zone.Observance) { o.Again, o.Rule = false, api.Rule{Freq: 1, Interval: 1} })},
		{"no rule", changed(func(o *zone.Observance) { o.Again, o.Rule = false, api.Rule{} })},
	}
}

func invalidZones() []labelled {
	list := []labelled{
		{"zero", zone.Zone{}},
		{"no name", named("")}, {"long name", named(strings.Repeat("Z", 61))}, {"name with a space", named("New York")},
		{"name with a point", named("a.b")}, {"name with a colon", named("a:b")}, {"name with a letter beyond ASCII", named("Malmö")}, {"name with a zero byte", named("a\x00")},
		{"no observances", zone.Zone{Name: "X"}}, {"empty list of observances", zone.Zone{Name: "X", L: []zone.Observance{}}},
		{"21 observances", manyObservances(21)}, {"61 starts", manyStarts(61)},
		{"start too early", changed(func(o *zone.Observance) { o.Start = firstValid - 1 })},
		{"start too late", changed(func(o *zone.Observance) { o.Start = lastValid + 1 })},
		{"zero observance", changed(func(o *zone.Observance) { *o = zone.Observance{} })},
		{"further start too early", changed(func(o *zone.Observance) { o.More = []int64{november, firstValid - 1} })},
		{"further start too late", changed(func(o *zone.Observance) { o.More = []int64{lastValid + 1, november} })},
		{"extreme starts", changed(func(o *zone.Observance) { o.More = []int64{math.MinInt64, math.MaxInt64} })},
		{"From too small", changed(func(o *zone.Observance) { o.From = -86400 })}, {"From too great", changed(func(o *zone.Observance) { o.From = 86400 })},
		{"To too small", changed(func(o *zone.Observance) { o.To = -86400 })}, {"To too great", changed(func(o *zone.Observance) { o.To = 86400 })},
		{"extreme From", changed(func(o *zone.Observance) { o.From = math.MinInt })}, {"extreme To", changed(func(o *zone.Observance) { o.To = math.MaxInt })},
		{"no rule", ruled(func(r *api.Rule) { *r = api.Rule{} })},
		{"interval 0", ruled(func(r *api.Rule) { r.Interval = 0 })}, {"interval 2", ruled(func(r *api.Rule) { r.Interval = 2 })},
		{"count 1", ruled(func(r *api.Rule) { r.Count = 1 })}, {"count -1", ruled(func(r *api.Rule) { r.Count = -1 })},
		{"until", ruled(func(r *api.Rule) { r.Has, r.Until = true, api.Time{Kind: 2, At: november} })},
		{"until that isn't had", ruled(func(r *api.Rule) { r.Until = api.Time{Kind: 2, At: november} })},
		{"week start 7", ruled(func(r *api.Rule) { r.Start = 7 })},
		{"month 13", ruled(func(r *api.Rule) { r.Month = []int{13} })},
		{"weekday 7", ruled(func(r *api.Rule) { r.Day = []api.Weekday{{Nth: 1, Day: 7}} })},
		{"weekday 54", ruled(func(r *api.Rule) { r.Day = []api.Weekday{{Nth: 54, Day: 1}} })},
		{"day 32", ruled(func(r *api.Rule) { r.Day, r.MonthDay = nil, []int{32} })},
		{"monthly", ruled(func(r *api.Rule) { r.Freq = recur.Monthly })},
		{"daily", ruled(func(r *api.Rule) { *r = api.Rule{Freq: recur.Daily, Interval: 1, Month: []int{1}, MonthDay: []int{1}} })},
		{"weekly", ruled(func(r *api.Rule) {
			*r = api.Rule{Freq: recur.Weekly, Interval: 1, Month: []int{1}, Day: []api.Weekday{{Day: 1}}}
		})},
	}
	for _, s := range []string{
		"WKST=MO", "BYMONTH=3", "BYDAY=-1SU", "BYMONTHDAY=1", "BYMONTH=3;BYDAY=SU", "BYMONTH=3,4;BYDAY=1SU", "BYMONTH=3,4;BYMONTHDAY=1",
		"BYMONTH=3;BYDAY=1SU,2SU", "BYMONTH=3;BYDAY=1SU,1MO", "BYMONTH=3;BYDAY=1SU,MO", "BYMONTH=3;BYMONTHDAY=1,2", "BYMONTH=3;BYMONTHDAY=1;BYDAY=1SU",
		"BYMONTH=3;BYYEARDAY=70", "BYMONTH=3;BYWEEKNO=10", "BYDAY=1SU;BYYEARDAY=70", "BYMONTHDAY=1;BYDAY=1SU", "BYMONTH=3;BYDAY=1SU;BYYEARDAY=70",
		"BYMONTH=3;BYMONTHDAY=1;BYWEEKNO=10", "BYMONTH=3;BYDAY=1SU;BYHOUR=2", "BYMONTH=3;BYDAY=1SU;BYMINUTE=0", "BYMONTH=3;BYMONTHDAY=1;BYSECOND=0",
		"BYMONTH=3;BYDAY=1SU;BYSETPOS=1", "BYMONTH=3;BYHOUR=2", "BYMONTH=3;BYMONTHDAY=1;COUNT=5", "BYMONTH=3;BYMONTHDAY=1;UNTIL=20300101", "BYMONTH=3;BYMONTHDAY=1;INTERVAL=4",
	} {
		list = append(list, labelled{s, ruled(func(r *api.Rule) { *r = rule(s) })})
	}
	return list
}

func TestRight(t *testing.T) {
	for _, c := range validZones() {
		if !zone.Right(c.z) {
			t.Errorf("%s: not valid", c.label)
		}
	}
	for _, c := range invalidZones() {
		if zone.Right(c.z) {
			t.Errorf("%s: valid", c.label)
		}
	}
}

// TestRightAtEachPlace puts a bad observance at each place of a full zone.
func TestRightAtEachPlace(t *testing.T) {
	for i := range 20 {
		z := manyObservances(20)
		z.L[i].From = 86400
		if zone.Right(z) {
			t.Errorf("valid, with a bad observance %d", i)
		}
	}
	for i := range 60 {
		z := manyStarts(60)
		z.L[0].More[i] = firstValid - 1
		if zone.Right(z) {
			t.Errorf("valid, with a bad further start %d", i)
		}
	}
}

// invalidSeconds are seconds that are not valid.
var invalidSeconds = []int64{0, 5, -1, firstValid - 1, lastValid + 1, math.MinInt64, math.MaxInt64, -november, math.MinInt32, 1 << 40}

// checkErrors checks that the functions of seconds return the error, and nothing beside it.
func checkErrors(t *testing.T, label string, z zone.Zone, at int64, want api.Errno) {
	t.Helper()
	if n, e := zone.Offset(z, at); n != 0 || e != want {
		t.Errorf("%s: Offset(%d) = %d, %v, want %v", label, at, n, e, want)
	}
	if n, e := zone.UTC(z, at); n != 0 || e != want {
		t.Errorf("%s: UTC(%d) = %d, %v, want %v", label, at, n, e, want)
	}
	if n, e := zone.Local(z, at); n != 0 || e != want {
		t.Errorf("%s: Local(%d) = %d, %v, want %v", label, at, n, e, want)
	}
}

func TestErrors(t *testing.T) {
	for _, c := range invalidZones() {
		checkErrors(t, c.label, c.z, november, api.ErrZone)
		// The zone is checked before the seconds.
		for _, at := range invalidSeconds {
			checkErrors(t, c.label, c.z, at, api.ErrZone)
		}
	}
	for _, c := range validZones() {
		for _, at := range invalidSeconds {
			checkErrors(t, c.label, c.z, at, api.ErrRange)
		}
	}
}

func TestEqual(t *testing.T) {
	changes := []struct {
		label  string
		change func(z *zone.Zone)
	}{
		{"name", func(z *zone.Zone) { z.Name = "x" }},
		{"fewer observances", func(z *zone.Zone) { z.L = z.L[:1] }},
		{"more observances", func(z *zone.Zone) { z.L = append(z.L, z.L[0]) }},
		{"order", func(z *zone.Zone) { z.L[0], z.L[1] = z.L[1], z.L[0] }},
		{"start", func(z *zone.Zone) { z.L[1].Start++ }},
		{"from", func(z *zone.Zone) { z.L[1].From++ }},
		{"to", func(z *zone.Zone) { z.L[1].To-- }},
		{"again", func(z *zone.Zone) { z.L[1].Again = !z.L[1].Again }},
		{"rule", func(z *zone.Zone) { z.L[1].Rule = rule("BYMONTH=10;BYDAY=1SU") }},
		{"week start", func(z *zone.Zone) { z.L[1].Rule.Start = 0 }},
		{"no rule", func(z *zone.Zone) { z.L[1].Rule = api.Rule{} }},
		{"further start", func(z *zone.Zone) { z.L[1].More[0]++ }},
		{"fewer further starts", func(z *zone.Zone) { z.L[1].More = z.L[1].More[:1] }},
		{"order of further starts", func(z *zone.Zone) { slices.Reverse(z.L[1].More) }},
	}
	for _, again := range []bool{true, false} {
		build := func() zone.Zone {
			z := oslo()
			z.L[1].Again, z.L[1].More = again, []int64{november, november + 1}
			return z
		}
		if !zone.Equal(build(), build()) {
			t.Error("a zone is not equal to itself")
		}
		for _, c := range changes {
			z := build()
			c.change(&z)
			if zone.Equal(build(), z) || zone.Equal(z, build()) {
				t.Errorf("%s: equal", c.label)
			}
		}
	}
}

// TestEqualOfAny compares zones whether or not they are valid.
func TestEqualOfAny(t *testing.T) {
	for _, c := range append(validZones(), invalidZones()...) {
		if !zone.Equal(c.z, c.z) {
			t.Errorf("%s: not equal to itself", c.label)
		}
		if c.label != "Oslo" && zone.Equal(c.z, oslo()) {
			t.Errorf("%s: equal to Oslo", c.label)
		}
	}
	nothing, empty := zoneOf(once("20200101T000000", 0, 0)), zoneOf(once("20200101T000000", 0, 0))
	empty.L[0].More = []int64{}
	if !zone.Equal(nothing, empty) || !zone.Equal(zone.Zone{}, zone.Zone{L: []zone.Observance{}}) {
		t.Error("nil and empty lists are not equal")
	}
}

// roomyZone returns a zone whose lists have spare capacity, which is filled too.
func roomyZone() zone.Zone {
	z := oslo()
	for i := range z.L {
		o := &z.L[i]
		o.More = append([]int64{november, firstValid, lastValid}, 7, 7, 7)[:3]
		o.Rule.Month = append(o.Rule.Month, 7, 7, 7)[:1]
		o.Rule.Day = append(o.Rule.Day, api.Weekday{Nth: 7, Day: 7})[:1]
	}
	z.L = append(z.L, zone.Observance{Start: 7})[:2]
	return z
}

func TestArgumentsAreLeftAlone(t *testing.T) {
	z := roomyZone()
	for _, at := range []int64{november, firstValid, lastValid, z.L[0].Start, z.L[1].Start, 0} {
		zone.Offset(z, at)
		zone.UTC(z, at)
		zone.Local(z, at)
	}
	zone.Right(z)
	zone.Equal(z, z)
	zone.Tree(z)
	if !zone.Equal(z, roomyZone()) {
		t.Errorf("the zone is %v", z)
	}
	for i, o := range z.L {
		if !slices.Equal(o.More[:6][3:], []int64{7, 7, 7}) || !slices.Equal(o.Rule.Month[:4][1:], []int{7, 7, 7}) || o.Rule.Day[:2][1] != (api.Weekday{Nth: 7, Day: 7}) {
			t.Errorf("the spare capacity of observance %d is changed", i)
		}
	}
	if z.L[:3][2].Start != 7 {
		t.Error("the spare capacity of the observances is changed")
	}
}
