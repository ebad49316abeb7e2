package zone_test

import (
	"cmp"
	"math/rand"
	"slices"
	"sort"
	"strconv"
	"testing"
	"time"

	"tryst/api"
	"tryst/zone"
)

// The second way lists all onsets of all observances and asks them one after another.

// An onset is the UTC time at which the observance with that index begins.
type onset struct {
	at    int64
	index int
}

// A history is a zone with all of its onsets, in ascending order, simultaneous ones in that of their observances.
type history struct {
	z    zone.Zone
	list []onset
}

func historyOf(z zone.Zone) history {
	h := history{z: z}
	for i, o := range z.L {
		for _, start := range append([]int64{o.Start}, o.More...) {
			h.list = append(h.list, onset{start - int64(o.From), i})
		}
		if !o.Again {
			continue
		}
		for year := yearOf(o.Start); year <= 9999; year++ {
			day, ok := dayOf(o.Rule, year)
			if start := day*daySeconds + o.Start%daySeconds; ok && start > o.Start {
				h.list = append(h.list, onset{start - int64(o.From), i})
			}
		}
	}
	slices.SortFunc(h.list, func(a, b onset) int { return cmp.Or(cmp.Compare(a.at, b.at), cmp.Compare(a.index, b.index)) })
	return h
}

// yearOf returns the year of the seconds, by Go's own calendar.
func yearOf(at int64) int {
	return time.Unix(at-unix, 0).UTC().Year()
}

// dayOf returns the day of the year on which a zone's rule applies, by Go's own calendar, and whether there is one.
func dayOf(r api.Rule, year int) (int64, bool) {
	month := time.Month(r.Month[0])
	var days []int64
	for day := 1; day <= 31; day++ {
		date := time.Date(year, month, day, 0, 0, 0, 0, time.UTC)
		if date.Month() == month && (len(r.Day) == 0 || int(date.Weekday()) == r.Day[0].Day) {
			days = append(days, date.Unix()/daySeconds+719163)
		}
	}
	n := 0
	if len(r.Day) > 0 {
		n = r.Day[0].Nth
	} else {
		n = r.MonthDay[0]
	}
	if n < 0 {
		slices.Reverse(days)
		n = -n
	}
	if n > len(days) {
		return 0, false
	}
	return days[n-1], true
}

// index returns the number of onsets that are not later.
func (h history) index(utc int64) int {
	return sort.Search(len(h.list), func(i int) bool { return h.list[i].at > utc })
}

// after returns the offset after so many onsets.
func (h history) after(n int) int {
	if n == 0 {
		return h.z.L[h.list[0].index].From
	}
	return h.z.L[h.list[n-1].index].To
}

// offset returns the offset at the UTC time, valid or not.
func (h history) offset(utc int64) int {
	return h.after(h.index(utc))
}

// utc returns the UTC seconds, and whether there are any.
func (h history) utc(local int64) (int64, bool) {
	first, last := max(local-86399, firstValid), min(local+86399, lastValid)
	n := h.index(first)
	for utc := first; utc <= last; utc++ {
		for n < len(h.list) && h.list[n].at <= utc {
			n++
		}
		if utc+int64(h.after(n)) == local {
			return utc, true
		}
	}
	for _, o := range h.list {
		before := int64(h.offset(o.at - 1))
		if o.at+before <= local && o.at+int64(h.offset(o.at)) > local {
			utc := local - before
			return utc, utc >= firstValid && utc <= lastValid
		}
	}
	return 0, false
}

// checkHistory checks all functions at one second, which is taken as a UTC time and as a local one.
func checkHistory(t *testing.T, h history, at int64) {
	t.Helper()
	checkOffset(t, h.z, at, h.offset(at))
	utc, found := h.utc(at)
	if found {
		checkUTC(t, h.z, at, utc, api.OK)
	} else {
		checkUTC(t, h.z, at, 0, api.ErrRange)
	}
	checkBack(t, h, at)
}

// checkBack checks that the local seconds of the UTC ones are converted back to these or, in a fold, to earlier ones.
func checkBack(t *testing.T, h history, utc int64) {
	t.Helper()
	local, e := zone.Local(h.z, utc)
	if e != api.OK {
		return
	}
	back, e := zone.UTC(h.z, local)
	if e != api.OK || back > utc {
		t.Errorf("%d comes back as %d, %v", utc, back, e)
		return
	}
	if again, e := zone.Local(h.z, back); again != local || e != api.OK {
		t.Errorf("%d has not the local seconds of %d: %d, %v", back, utc, again, e)
	}
}

// drawnOffset returns an offset, often a small one.
func drawnOffset(r *rand.Rand) int {
	switch r.Intn(6) {
	case 0:
		return r.Intn(2*86399+1) - 86399
	case 1:
		return r.Intn(200) - 100
	case 2:
		return 2*r.Intn(2)*86399 - 86399
	}
	return (r.Intn(27) - 12) * hour
}

// drawnStart returns valid seconds, often close to some others.
func drawnStart(r *rand.Rand) int64 {
	near := func(at int64, distance int) int64 {
		return min(max(at+int64(r.Intn(2*distance)-distance), firstValid), lastValid)
	}
	switch r.Intn(9) {
	case 0:
		return near(firstValid, 200000)
	case 1:
		return near(lastValid, 200000)
	case 2:
		return firstValid + r.Int63n(lastValid-firstValid+1)
	case 3, 4:
		return near(november, 90000)
	case 5, 6:
		return near(november, 100)
	}
	return near(november, 20*366*daySeconds)
}

// drawnRule returns a rule of a zone.
func drawnRule(r *rand.Rand) api.Rule {
	rule := api.Rule{Freq: 4, Interval: 1, Start: r.Intn(7), Month: []int{1 + r.Intn(12)}}
	if r.Intn(4) == 0 {
		rule.Month[0] = []int{1, 2, 11, 12}[r.Intn(4)]
	}
	sign := 2*r.Intn(2) - 1
	if r.Intn(2) == 0 {
		rule.MonthDay = []int{sign * (1 + r.Intn(31))}
		return rule
	}
	rule.Day = []api.Weekday{{Nth: sign * (1 + r.Intn(6)), Day: r.Intn(7)}}
	return rule
}

// drawnZone returns a valid zone.
func drawnZone(r *rand.Rand) zone.Zone {
	z := zone.Zone{Name: "X" + strconv.Itoa(r.Intn(100))}
	for range 1 + r.Intn(6) {
		o := zone.Observance{Start: drawnStart(r), From: drawnOffset(r), To: drawnOffset(r)}
		for range r.Intn(5) {
			o.More = append(o.More, drawnStart(r))
		}
		if r.Intn(2) == 0 {
			o.Again, o.Rule = true, drawnRule(r)
		}
		z.L = append(z.L, o)
	}
	return z
}

// drawnSecond returns valid seconds, mostly about those of an onset.
func (h history) drawnSecond(r *rand.Rand) int64 {
	at := h.list[r.Intn(len(h.list))].at
	switch r.Intn(8) {
	case 0:
		at = drawnStart(r)
	case 1, 2:
		at = h.list[r.Intn(min(len(h.list), 12))].at
	case 3:
		at = h.list[max(0, h.index(november)-1)].at
	}
	switch r.Intn(4) {
	case 0:
		at += int64(drawnOffset(r))
	case 1:
		at += int64(h.offset(at))
	case 2:
		at += int64(h.offset(at - 1))
	}
	return min(max(at+int64(r.Intn(5)-2), firstValid), lastValid)
}

func TestDrawnZones(t *testing.T) {
	r := rand.New(rand.NewSource(16))
	for range 200 {
		h := historyOf(drawnZone(r))
		if !zone.Right(h.z) {
			t.Fatalf("%v is not valid", h.z)
		}
		for range 25 {
			checkHistory(t, h, h.drawnSecond(r))
		}
		if t.Failed() {
			t.Fatalf("with the zone %v", h.z)
		}
	}
}

// TestEverySecond goes through all seconds around onsets that lie close together.
func TestEverySecond(t *testing.T) {
	r := rand.New(rand.NewSource(61))
	for range 20 {
		var list []shift
		for from := int64(r.Intn(9)); len(list) < 8; from += 1 + int64(r.Intn(12)) {
			list = append(list, shift{from, r.Intn(61) - 30})
		}
		h := historyOf(shifting(r.Intn(61)-30, list...))
		for at := noon - 80; at < noon+180; at++ {
			checkHistory(t, h, at)
		}
		if t.Failed() {
			t.Fatalf("with the zone %v", h.z)
		}
	}
}

// TestEveryRule checks some changes by each rule that a zone may have.
func TestEveryRule(t *testing.T) {
	r := rand.New(rand.NewSource(1616))
	for month := 1; month <= 12; month++ {
		for n := -31; n <= 31; n++ {
			for weekday := -1; weekday < 7; weekday++ {
				if n == 0 || weekday >= 0 && (n < -6 || n > 6) {
					continue
				}
				rule := api.Rule{Freq: 4, Interval: 1, Month: []int{month}, MonthDay: []int{n}}
				if weekday >= 0 {
					rule.MonthDay, rule.Day = nil, []api.Weekday{{Nth: n, Day: weekday}}
				}
				checkRule(t, rule, 1900+r.Intn(300))
			}
		}
	}
}

// checkRule checks a change by the rule in one year, in which the offset is another one from the beginning on.
func checkRule(t *testing.T, rule api.Rule, year int) {
	t.Helper()
	z := zoneOf(zone.Observance{Start: at("18000101T120000"), From: -5, To: 60, Again: true, Rule: rule}, yearly("18000101T000000", 7, 120, "BYMONTH=1;BYMONTHDAY=1"))
	newYear := at(strconv.Itoa(year) + "0101T000000")
	day, ok := dayOf(rule, year)
	if !ok {
		checkOffset(t, z, newYear+365*daySeconds-hour, 120)
		return
	}
	utc := day*daySeconds + 43200 + 5
	checkOffset(t, z, utc-1, 120)
	checkOffset(t, z, utc, 60)
	checkOffset(t, z, newYear+365*daySeconds-hour, 60)
}

// TestRareDays goes through the years between the rarest days, and looks which recurrence is the last one in each.
func TestRareDays(t *testing.T) {
	rules := []string{"BYMONTHDAY=29", "BYMONTHDAY=-29"}
	for _, weekday := range []string{"SU", "MO", "TU", "WE", "TH", "FR", "SA"} {
		rules = append(rules, "BYDAY=5"+weekday, "BYDAY=-5"+weekday)
	}
	for _, s := range rules {
		often := zone.Observance{Start: at("18600101T120000"), From: 0, To: 60, Again: true, Rule: rule("BYMONTH=2;" + s)}
		last := often.Start
		for year := 1860; year < 2150; year++ {
			if day, ok := dayOf(often.Rule, year); ok {
				last = day*daySeconds + 43200
			}
			utc := at(strconv.Itoa(year) + "1231T000000")
			checkOffset(t, zoneOf(often, zone.Observance{Start: last + 1, From: 0, To: 120}), utc, 120)
			checkOffset(t, zoneOf(often, zone.Observance{Start: last - 1, From: 0, To: 120}), utc, 60)
		}
	}
}
