package recur_test

import (
	"fmt"
	"math/rand"
	"slices"
	"strings"
	"testing"
	"time"

	"tryst/api"
	"tryst/recur"
)

// A second way to write a rule: all parts are written, and those that are not present are cut out of it.

// cut are the parts that are not present, each as it is written then.
var cut = strings.NewReplacer(
	";INTERVAL=1;", ";", ";COUNT=0;", ";", ";UNTIL=;", ";", ";BYDAY=;", ";", ";WKST=MO;", ";",
	";BYSECOND=;", ";", ";BYMINUTE=;", ";", ";BYHOUR=;", ";", ";BYMONTHDAY=;", ";", ";BYYEARDAY=;", ";", ";BYWEEKNO=;", ";", ";BYMONTH=;", ";", ";BYSETPOS=;", ";",
)

// wantText writes a valid rule.
func wantText(r api.Rule) string {
	names := strings.Fields("SU MO TU WE TH FR SA")
	var days []string
	for _, d := range r.Day {
		days = append(days, strings.TrimPrefix(fmt.Sprintf("%d~%s", d.Nth, names[d.Day]), "0~"))
	}
	s := fmt.Sprintf(";FREQ=%s;;INTERVAL=%d;;COUNT=%d;;UNTIL=%s;", strings.Fields("DAILY WEEKLY MONTHLY YEARLY")[r.Freq-1], r.Interval, r.Count, wantUntil(r))
	for _, c := range columns {
		if c.name == "BYMONTHDAY" {
			s += ";BYDAY=" + strings.ReplaceAll(strings.Join(days, ","), "~", "") + ";"
		}
		s += ";" + c.name + "=" + strings.Trim(strings.ReplaceAll(fmt.Sprint(*c.of(&r)), " ", ","), "[]") + ";"
	}
	s += ";WKST=" + names[r.Start] + ";"
	s = cut.Replace(s)
	for strings.Contains(s, ";;") {
		s = strings.ReplaceAll(s, ";;", ";")
	}
	return strings.Trim(s, ";")
}

// wantUntil writes the end of a rule as Go's own calendar does.
func wantUntil(r api.Rule) string {
	if !r.Has {
		return ""
	}
	end := time.Date(1, 1, 1, 0, 0, 0, 0, time.UTC).AddDate(0, 0, int(r.Until.At/secondsOfDay)-1).Add(time.Duration(r.Until.At%secondsOfDay) * time.Second)
	return end.Format([]string{"20060102", "20060102T150405", "20060102T150405Z"}[r.Until.Kind])
}

// checkPrint checks that the text is what is written for r, and what is read as it (P13.2).
func checkPrint(t *testing.T, r api.Rule, text string) {
	t.Helper()
	if s, e := recur.Print(r); s != text || e != api.OK {
		t.Errorf("Print(%+v) = %q, %v, want %q, OK", r, s, e, text)
	}
	back, e := recur.Parse(text)
	if !same(back, r) || e != api.OK || !recur.Equal(back, r) {
		t.Errorf("Parse(%q) = %+v, %v, want %+v, OK", text, back, e, r)
	}
}

// written are valid rules with their texts, each worked out by itself.
var written = []struct {
	rule api.Rule
	text string
}{
	{plain(recur.Daily), "FREQ=DAILY"},
	{plain(recur.Weekly), "FREQ=WEEKLY"},
	{plain(recur.Monthly), "FREQ=MONTHLY"},
	{plain(recur.Yearly), "FREQ=YEARLY"},
	{api.Rule{Freq: 1, Interval: 2, Start: 1}, "FREQ=DAILY;INTERVAL=2"},
	{api.Rule{Freq: 1, Interval: 1000, Start: 1}, "FREQ=DAILY;INTERVAL=1000"},
	{api.Rule{Freq: 1, Interval: 1, Count: 1, Start: 1}, "FREQ=DAILY;COUNT=1"},
	{api.Rule{Freq: 1, Interval: 1, Count: 1000, Start: 1}, "FREQ=DAILY;COUNT=1000"},
	{until(api.Time{Kind: 0, At: november}), "FREQ=DAILY;UNTIL=20261115"},
	{until(api.Time{Kind: 1, At: november + 32707}), "FREQ=DAILY;UNTIL=20261115T090507"},
	{until(api.Time{Kind: 2, At: november + 32707}), "FREQ=DAILY;UNTIL=20261115T090507Z"},
	{until(api.Time{Kind: 1, At: november}), "FREQ=DAILY;UNTIL=20261115T000000"},
	{until(api.Time{Kind: 2, At: november}), "FREQ=DAILY;UNTIL=20261115T000000Z"},
	{until(api.Time{Kind: 0, At: secondsOfDay}), "FREQ=DAILY;UNTIL=00010101"},
	{until(api.Time{Kind: 2, At: lastSecond}), "FREQ=DAILY;UNTIL=99991231T235959Z"},
	{api.Rule{Freq: 2, Interval: 1, Start: 0}, "FREQ=WEEKLY;WKST=SU"},
	{api.Rule{Freq: 2, Interval: 1, Start: 1}, "FREQ=WEEKLY"},
	{api.Rule{Freq: 2, Interval: 1, Start: 2}, "FREQ=WEEKLY;WKST=TU"},
	{api.Rule{Freq: 2, Interval: 1, Start: 3}, "FREQ=WEEKLY;WKST=WE"},
	{api.Rule{Freq: 2, Interval: 1, Start: 4}, "FREQ=WEEKLY;WKST=TH"},
	{api.Rule{Freq: 2, Interval: 1, Start: 5}, "FREQ=WEEKLY;WKST=FR"},
	{api.Rule{Freq: 2, Interval: 1, Start: 6}, "FREQ=WEEKLY;WKST=SA"},
	{api.Rule{Freq: 1, Interval: 1, Start: 1, Second: []int{0, 30, 59}}, "FREQ=DAILY;BYSECOND=0,30,59"},
	{api.Rule{Freq: 1, Interval: 1, Start: 1, Minute: []int{0, 5, 59}}, "FREQ=DAILY;BYMINUTE=0,5,59"},
	{api.Rule{Freq: 1, Interval: 1, Start: 1, Hour: []int{0}}, "FREQ=DAILY;BYHOUR=0"},
	{api.Rule{Freq: 1, Interval: 1, Start: 1, Hour: []int{9, 23}}, "FREQ=DAILY;BYHOUR=9,23"},
	{onDays(recur.Monthly, day(-1, 5)), "FREQ=MONTHLY;BYDAY=-1FR"},
	{onDays(recur.Monthly, day(1, 1)), "FREQ=MONTHLY;BYDAY=1MO"},
	{onDays(recur.Monthly, day(0, 1)), "FREQ=MONTHLY;BYDAY=MO"},
	{onDays(recur.Yearly, day(-53, 0), day(0, 0), day(53, 0), day(-10, 6), day(20, 6)), "FREQ=YEARLY;BYDAY=-53SU,SU,53SU,-10SA,20SA"},
	{onDays(recur.Weekly, day(0, 0), day(0, 1), day(0, 2), day(0, 3), day(0, 4), day(0, 5), day(0, 6)), "FREQ=WEEKLY;BYDAY=SU,MO,TU,WE,TH,FR,SA"},
	{api.Rule{Freq: 3, Interval: 1, Start: 1, MonthDay: []int{-31, -1, 1, 31}}, "FREQ=MONTHLY;BYMONTHDAY=-31,-1,1,31"},
	{api.Rule{Freq: 4, Interval: 1, Start: 1, YearDay: []int{-366, -100, 1, 366}}, "FREQ=YEARLY;BYYEARDAY=-366,-100,1,366"},
	{api.Rule{Freq: 4, Interval: 1, Start: 1, Week: []int{-53, 53}}, "FREQ=YEARLY;BYWEEKNO=-53,53"},
	{api.Rule{Freq: 1, Interval: 1, Start: 1, Month: []int{1, 12}}, "FREQ=DAILY;BYMONTH=1,12"},
	{api.Rule{Freq: 1, Interval: 1, Start: 1, Month: []int{1}, Position: []int{-366, -1, 1, 366}}, "FREQ=DAILY;BYMONTH=1;BYSETPOS=-366,-1,1,366"},
	{
		api.Rule{
			Freq: 4, Interval: 2, Count: 3, Start: 0, Second: []int{4}, Minute: []int{5}, Hour: []int{6}, Day: []api.Weekday{{Day: 1}},
			MonthDay: []int{7}, YearDay: []int{8}, Week: []int{9}, Month: []int{10}, Position: []int{11},
		},
		"FREQ=YEARLY;INTERVAL=2;COUNT=3;BYSECOND=4;BYMINUTE=5;BYHOUR=6;BYDAY=MO;BYMONTHDAY=7;BYYEARDAY=8;BYWEEKNO=9;BYMONTH=10;BYSETPOS=11;WKST=SU",
	},
	{
		api.Rule{
			Freq: 4, Interval: 10, Until: api.Time{Kind: 2, At: november}, Has: true, Start: 6, Second: []int{4, 5}, Minute: []int{5, 6}, Hour: []int{6, 7}, Day: []api.Weekday{{Nth: -3, Day: 1}, {Nth: 2, Day: 1}},
			MonthDay: []int{-7, 7}, YearDay: []int{-8, 8}, Month: []int{10, 11}, Position: []int{-11, 11},
		},
		"FREQ=YEARLY;INTERVAL=10;UNTIL=20261115T000000Z;BYSECOND=4,5;BYMINUTE=5,6;BYHOUR=6,7;BYDAY=-3MO,2MO;BYMONTHDAY=-7,7;BYYEARDAY=-8,8;BYMONTH=10,11;BYSETPOS=-11,11;WKST=SA",
	},
}

// P13.1: Print

func TestPrintOrdinary(t *testing.T) {
	for _, c := range written {
		checkPrint(t, c.rule, c.text)
		checkFormed(t, c.rule)
	}
}

// TestPrintLong writes the longest lists.
func TestPrintLong(t *testing.T) {
	r := plain(recur.Yearly)
	for _, c := range columns {
		possible := c.possible()
		*c.of(&r) = possible[:min(40, len(possible))]
	}
	for weekday := range 7 {
		r.Day = append(r.Day, day(0, weekday))
	}
	checkFormed(t, r)
	r.Week = nil
	r.Day = nil
	for nth := -40; nth < 0; nth++ {
		r.Day = append(r.Day, day(nth, 3))
	}
	checkFormed(t, r)
}

// TestPrintNothingElse checks rules that have a text but for one fault.
func TestPrintNothingElse(t *testing.T) {
	for _, c := range written {
		for _, change := range []func(r *api.Rule){
			func(r *api.Rule) { r.Freq = 0 }, func(r *api.Rule) { r.Freq = 5 }, func(r *api.Rule) { r.Interval = 0 }, func(r *api.Rule) { r.Interval = 1001 },
			func(r *api.Rule) { r.Count = -1 }, func(r *api.Rule) { r.Count = 1001 }, func(r *api.Rule) { r.Start = -1 }, func(r *api.Rule) { r.Start = 7 },
			func(r *api.Rule) { r.Has = !r.Has }, func(r *api.Rule) { r.Until.Kind = 3 }, func(r *api.Rule) { r.Until.Zone = "Oslo" },
			func(r *api.Rule) { r.Hour = []int{24} }, func(r *api.Rule) { r.Day = []api.Weekday{{Day: 7}} }, func(r *api.Rule) { r.Month = []int{2, 1} },
		} {
			r := copied(c.rule, 2)
			change(&r)
			checkNotFormed(t, r)
		}
	}
}

// TestRuleUnchanged checks that no function changes the rules that it is given, or what is behind their lists.
func TestRuleUnchanged(t *testing.T) {
	rules := []api.Rule{full(), subset(recur.Yearly, 1<<9-1, 0), subset(recur.Monthly, 1<<9-1, 4), {}}
	for _, c := range written {
		rules = append(rules, c.rule)
	}
	for _, c := range columns {
		rules = append(rules, c.in(3, 2, 1, 1, 2), c.in(1, 2, 3))
	}
	rules = append(rules, onDays(recur.Monthly, day(1, 3), day(1, 2), day(1, 3)))
	for _, r := range rules {
		given := copied(r, 6)
		// What is behind the lists is not zero, and not ascending.
		for _, c := range columns {
			list := *c.of(&given)
			for i, spare := range list[len(list):cap(list)] {
				list[len(list):cap(list)][i] = spare + 90 - i
			}
		}
		for i := range given.Day[len(given.Day):cap(given.Day)] {
			given.Day[len(given.Day):cap(given.Day)][i] = day(90-i, 80-i)
		}
		before := whole(given)
		recur.Formed(given)
		recur.Print(given)
		recur.Equal(given, given)
		recur.Equal(given, api.Rule{})
		recur.Equal(api.Rule{}, given)
		recur.Lists(given)
		if after := whole(given); after != before {
			t.Errorf("%s is changed to %s", before, after)
		}
	}
}

// whole writes a rule with what is behind its lists.
func whole(r api.Rule) string {
	s := fmt.Sprintf("%+v", r)
	for _, c := range columns {
		list := *c.of(&r)
		s += fmt.Sprint(list[:cap(list)])
	}
	return s + fmt.Sprint(r.Day[:cap(r.Day)])
}

// P13.2

// some returns some of the numbers, ascending.
func some(random *rand.Rand, numbers []int) []int {
	var list []int
	for range random.Intn(6) {
		list = append(list, numbers[random.Intn(len(numbers))])
	}
	slices.Sort(list)
	return slices.Compact(list)
}

// anyRule returns a rule with lists that ascend; it is not always valid.
func anyRule(random *rand.Rand) api.Rule {
	r := api.Rule{Freq: 1 + random.Intn(4), Interval: 1 + random.Intn(1000)%(1+random.Intn(1000)), Start: random.Intn(7)}
	switch random.Intn(3) {
	case 0:
		r.Count = 1 + random.Intn(1000)
	case 1:
		r.Has = true
		r.Until = api.Time{Kind: random.Intn(3), At: (1 + random.Int63n(api.LastDay)) * secondsOfDay}
		if r.Until.Kind > 0 {
			r.Until.At += random.Int63n(secondsOfDay)
		}
	}
	for _, c := range columns {
		if random.Intn(3) == 0 && (goes(c.name, r.Freq) || random.Intn(20) == 0) {
			*c.of(&r) = some(random, c.possible())
		}
	}
	if random.Intn(2) == 0 {
		for _, code := range some(random, rangeOf(7*107)) {
			r.Day = append(r.Day, day(code%107-53, code/107))
			if (r.Freq < 3 || len(r.Week) > 0) && random.Intn(20) > 0 {
				r.Day[len(r.Day)-1].Nth = 0
			}
		}
		r.Day = slices.Compact(r.Day)
	}
	return r
}

// rangeOf returns the numbers from 0 on, n of them.
func rangeOf(n int) []int {
	var all []int
	for i := range n {
		all = append(all, i)
	}
	return all
}

// TestWrittenIsRead checks rules of all kinds: what is written is read unchanged, and is written as before.
func TestWrittenIsRead(t *testing.T) {
	random := rand.New(rand.NewSource(13))
	formed := 0
	for range 60000 {
		r := anyRule(random)
		check(t, r, valid(r))
		if valid(r) {
			formed++
		}
	}
	if formed < 20000 || formed > 59000 {
		t.Errorf("%d of the rules are valid", formed)
	}
}
