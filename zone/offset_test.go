package zone_test

import (
	"testing"

	"tryst/api"
	"tryst/zone"
)

// A reading is the offset that a zone has at a UTC time.
type reading struct {
	utc    string
	offset int
}

// checkReadings checks the offsets, and the local times with them.
func checkReadings(t *testing.T, z zone.Zone, list []reading) {
	t.Helper()
	for _, c := range list {
		checkOffset(t, z, at(c.utc), c.offset)
	}
}

// checkOffset checks Offset, and Local with it.
func checkOffset(t *testing.T, z zone.Zone, utc int64, want int) {
	t.Helper()
	if n, e := zone.Offset(z, utc); n != want || e != api.OK {
		t.Errorf("the offset at %s is %d, %v, want %d", shown(utc), n, e, want)
	}
	local, wanted := utc+int64(want), api.OK
	if local < firstValid || local > lastValid {
		local, wanted = 0, api.ErrRange
	}
	if n, e := zone.Local(z, utc); n != local || e != wanted {
		t.Errorf("the local time at %s is %d, %v, want %d, %v", shown(utc), n, e, local, wanted)
	}
}

// checkChange checks the offsets just before the UTC time, at it and just after it.
func checkChange(t *testing.T, z zone.Zone, utc string, before, after int) {
	t.Helper()
	for distance, offset := range map[int64]int{-2: before, -1: before, 0: after, 1: after} {
		checkOffset(t, z, at(utc)+distance, offset)
	}
}

func TestFixed(t *testing.T) {
	// The chapter's example, and other offsets.
	for _, offset := range []int{hour, 0, -hour, 1, -1, 86399, -86399, 5*hour + 30*60} {
		for _, utc := range []int64{firstValid, firstValid + 86399, november, at("20191231T230000"), at("20200101T000000"), lastValid - 86399, lastValid} {
			checkOffset(t, fixed(offset), utc, offset)
		}
	}
}

func TestYearlyChanges(t *testing.T) {
	z := oslo()
	for _, day := range []string{"19960331", "19970330", "20000326", "20240331", "20260329", "21000328", "99990328"} {
		checkChange(t, z, day+"T010000", hour, 2*hour)
	}
	for _, day := range []string{"19961027", "19971026", "20001029", "20241027", "20261025", "21001031", "99991031"} {
		checkChange(t, z, day+"T010000", 2*hour, hour)
	}
	checkReadings(t, z, []reading{
		{"00010101T000000", hour}, {"00010701T000000", hour}, {"19950701T000000", hour}, {"19951231T235959", hour}, {"19960101T000000", hour},
		{"19960701T000000", 2 * hour}, {"19961231T235959", hour}, {"19970101T000000", hour}, {"20260701T000000", 2 * hour}, {"99990701T000000", 2 * hour}, {"99991231T225959", hour},
	})
}

func TestSouthernChanges(t *testing.T) {
	z := sydney()
	for _, utc := range []string{"20080405T160000", "20090404T160000", "20260404T160000", "99990403T160000"} {
		checkChange(t, z, utc, 11*hour, 10*hour)
	}
	for _, utc := range []string{"20081004T160000", "20091003T160000", "20261003T160000", "99991002T160000"} {
		checkChange(t, z, utc, 10*hour, 11*hour)
	}
	checkReadings(t, z, []reading{{"00010101T000000", 11 * hour}, {"20080101T000000", 11 * hour}, {"20081231T235959", 11 * hour}, {"20090101T000000", 11 * hour}, {"20090701T000000", 10 * hour}, {"99991231T125959", 11 * hour}})
}

func TestEachKindOfOnset(t *testing.T) {
	o := yearly("20200401T120000", -5*hour, -4*hour, "BYMONTH=4;BYMONTHDAY=1")
	o.More = []int64{at("20300101T000000"), at("20100615T000000"), at("20250401T120000")}
	back := once("20200901T120000", -4*hour, -5*hour, "20100901T000000", "20210901T120000", "20300201T000000")
	z := zoneOf(o, back)
	for _, utc := range []string{"20100615T050000", "20200401T170000", "20210401T170000"} {
		checkChange(t, z, utc, -5*hour, -4*hour)
	}
	for _, utc := range []string{"20100901T040000", "20200901T160000", "20210901T160000", "20300201T040000"} {
		checkChange(t, z, utc, -4*hour, -5*hour)
	}
	// Further starts without an effect: at one of the recurrences, and after them.
	checkChange(t, z, "20250401T170000", -4*hour, -4*hour)
	checkChange(t, z, "20300101T050000", -4*hour, -4*hour)
	checkReadings(t, z, []reading{{"00010101T000000", -5 * hour}, {"20150401T000000", -5 * hour}, {"20200331T000000", -5 * hour}, {"99991231T235959", -4 * hour}})
}

// TestStartIsNoTimeOfTheRule has a Start that the rule itself does not give, before and after the rule's time of that year.
func TestStartIsNoTimeOfTheRule(t *testing.T) {
	z := zoneOf(yearly("20200101T000000", 0, 60, "BYMONTH=6;BYMONTHDAY=1"), once("20200301T000000", 60, 0, "20210301T000000"))
	for _, utc := range []string{"20200101T000000", "20200601T000000", "20210601T000000"} {
		checkChange(t, z, utc, 0, 60)
	}
	z = zoneOf(yearly("20200901T000000", 0, 60, "BYMONTH=6;BYMONTHDAY=1"), once("20200301T000000", 60, 120, "20210301T000000", "20201001T000000"))
	// The rule's times before Start do not count.
	checkChange(t, z, "20200601T000000", 120, 120)
	checkChange(t, z, "20200901T000000", 120, 60)
	checkChange(t, z, "20210601T000000", 120, 60)
	checkReadings(t, z, []reading{{"20190701T000000", 60}, {"20200201T000000", 60}, {"20200401T000000", 120}})
	// The time of day is Start's.
	checkChange(t, zoneOf(yearly("20200101T131415", 0, 60, "BYMONTH=6;BYMONTHDAY=1"), once("20300301T000000", 60, 0)), "20300601T131415", 0, 60)
}

func TestDaysOfTheMonth(t *testing.T) {
	for _, c := range []struct {
		rule string
		days []string
	}{
		{"BYMONTH=1;BYMONTHDAY=1", []string{"20210101", "20990101", "99990101"}},
		{"BYMONTH=12;BYMONTHDAY=31", []string{"20201231", "20211231", "99981231"}},
		{"BYMONTH=12;BYMONTHDAY=-1", []string{"20201231", "20211231"}},
		{"BYMONTH=1;BYMONTHDAY=-31", []string{"20210101", "20220101"}},
		{"BYMONTH=2;BYMONTHDAY=-1", []string{"20200229", "20210228", "21000228", "24000229"}},
		{"BYMONTH=2;BYMONTHDAY=-29", []string{"20200201", "20240201", "20960201", "21040201"}},
		{"BYMONTH=2;BYMONTHDAY=29", []string{"20200229", "20240229", "20960229", "21040229"}},
		{"BYMONTH=4;BYMONTHDAY=30", []string{"20200430", "20210430"}},
	} {
		z := zoneOf(yearly("20200101T120000", 0, hour, c.rule), yearly("20200110T120000", hour, 0, "BYMONTH=1;BYMONTHDAY=10"), yearly("20201230T120000", hour, 0, "BYMONTH=12;BYMONTHDAY=30"))
		for _, day := range c.days {
			checkChange(t, z, day+"T120000", 0, hour)
		}
	}
}

func TestLackingDays(t *testing.T) {
	// These days come not in each year.
	z := zoneOf(yearly("20000101T120000", 0, hour, "BYMONTH=2;BYMONTHDAY=29"), once("20000301T000000", hour, 0, "20960301T000000"))
	checkReadings(t, z, []reading{
		{"20000228T120000", hour}, {"20000301T000000", 0}, {"20010301T000000", 0}, {"20040229T115959", 0}, {"20040229T120000", hour}, {"20050301T000000", hour},
		{"20960301T000000", 0}, {"20970301T000000", 0}, {"21000301T000000", 0}, {"21040229T115959", 0}, {"21040229T120000", hour},
	})
	// February 29 was a Friday in 1884, and then not until 1924.
	z = zoneOf(yearly("18840101T120000", 0, hour, "BYMONTH=2;BYDAY=5FR"), once("18840601T000000", hour, 0))
	checkReadings(t, z, []reading{{"18840601T000000", 0}, {"19240229T115959", 0}, {"19240229T120000", hour}, {"19250101T000000", hour}, {"19520229T120000", hour}})
	z = zoneOf(yearly("18840101T120000", 0, hour, "BYMONTH=2;BYDAY=5FR"), once("18850101T000000", hour, 60, "19250101T000000"))
	checkReadings(t, z, []reading{{"19230101T000000", 60}, {"19240229T115959", 60}, {"19240229T120000", hour}, {"19250101T000000", 60}, {"19520229T115959", 60}, {"19520229T120000", hour}})
	// These days never come, so that Start and the further starts are all there is.
	for _, never := range []string{"BYMONTH=2;BYMONTHDAY=30", "BYMONTH=2;BYMONTHDAY=-30", "BYMONTH=6;BYMONTHDAY=31", "BYMONTH=5;BYDAY=6MO", "BYMONTH=5;BYDAY=-6MO", "BYMONTH=1;BYDAY=53SA"} {
		z = zoneOf(yearly("20000101T120000", 0, hour, never), once("20010101T000000", hour, 0, "99990101T000000"))
		checkReadings(t, z, []reading{{"00010101T000000", 0}, {"20000101T115959", 0}, {"20000101T120000", hour}, {"20001231T225959", hour}, {"20001231T230000", 0}, {"20260601T120000", 0}, {"99991231T000000", 0}})
	}
}

func TestWeekdaysOfTheMonth(t *testing.T) {
	for _, c := range []struct {
		rule string
		days []string
	}{
		// 2026-11-01 is a Sunday.
		{"BYMONTH=11;BYDAY=1SU", []string{"20261101", "20271107", "20321107"}},
		{"BYMONTH=11;BYDAY=2SU", []string{"20261108", "20271114"}},
		{"BYMONTH=11;BYDAY=3MO", []string{"20261116", "20271115"}},
		{"BYMONTH=11;BYDAY=4SA", []string{"20261128", "20271127"}},
		{"BYMONTH=11;BYDAY=5SU", []string{"20261129"}},
		{"BYMONTH=11;BYDAY=5MO", []string{"20261130"}},
		{"BYMONTH=11;BYDAY=-1SU", []string{"20261129", "20271128"}},
		{"BYMONTH=11;BYDAY=-2TU", []string{"20261117", "20271123"}},
		{"BYMONTH=11;BYDAY=-3WE", []string{"20261111", "20271110"}},
		{"BYMONTH=11;BYDAY=-4TH", []string{"20261105", "20271104"}},
		{"BYMONTH=11;BYDAY=-5SU", []string{"20261101"}},
		{"BYMONTH=11;BYDAY=-5MO", []string{"20261102"}},
	} {
		z := zoneOf(yearly("20200102T120000", 0, hour, c.rule), yearly("20200110T120000", hour, 0, "BYMONTH=1;BYMONTHDAY=10"))
		for _, day := range c.days {
			checkChange(t, z, day+"T120000", 0, hour)
		}
	}
	// No fifth Sunday in November of 2027.
	z := zoneOf(yearly("20200102T120000", 0, hour, "BYMONTH=11;BYDAY=5SU"), yearly("20200110T120000", hour, 0, "BYMONTH=1;BYMONTHDAY=10"))
	checkReadings(t, z, []reading{{"20261231T000000", hour}, {"20271129T120000", 0}, {"20271231T120000", 0}, {"20280110T120000", 0}})
}

func TestSimultaneousOnsets(t *testing.T) {
	start := "20260101T000000"
	// Of simultaneous onsets the last observance counts, whatever its kind.
	z := zoneOf(once(start, 0, 60), once(start, 0, 120), once("20270101T000000", 0, 180, start), yearly("20200101T000000", 0, 240, "BYMONTH=1;BYMONTHDAY=1"))
	for n := 1; n <= 4; n++ {
		if n < 4 {
			checkChange(t, zoneOf(z.L[:n]...), start, 0, 60*n)
			continue
		}
		checkChange(t, z, start, 240, 240)
	}
	// They are simultaneous in UTC, not by their clocks.
	z = zoneOf(once("20260101T010000", hour, 60), once("20260101T000000", 0, 120), once("20260101T020000", hour, 180))
	checkChange(t, z, start, hour, 120)
	checkChange(t, z, "20260101T010000", 120, 180)
	z = zoneOf(z.L[2], z.L[1], z.L[0])
	checkChange(t, z, start, 0, 60)
	// The last onset counts, wherever its observance stands in the list.
	z = zoneOf(once("20260101T000002", 0, 60), once(start, 0, 120))
	checkReadings(t, z, []reading{{start, 120}, {"20260101T000001", 120}, {"20260101T000002", 60}, {"20300101T000000", 60}})
}

func TestBeforeAllOnsets(t *testing.T) {
	early, late := "20250101T000000", "20260101T000000"
	for _, c := range []struct {
		z    zone.Zone
		want int
	}{
		{zoneOf(once(early, 10, 99), once(late, 20, 99)), 10},
		{zoneOf(once(late, 20, 99), once(early, 10, 99)), 10},
		// A further start may be the earliest.
		{zoneOf(once(early, 10, 99), once(late, 20, 99, late, "20240101T000000")), 20},
		{zoneOf(once(early, 10, 99, "20240102T000000", "20230101T000000"), once(late, 20, 99, "20240101T000000")), 10},
		// The earliest one in UTC.
		{zoneOf(once("20250101T000000", 10, 99), once("20250101T000001", 12, 99)), 12},
		{zoneOf(once("20250101T000000", -10, 99), once("20250101T000001", -8, 99)), -8},
		// Of several simultaneous ones, the first.
		{zoneOf(once("20250101T000010", 10, 99), once("20250101T000012", 12, 99), once("20250101T000008", 8, 99)), 10},
		{zoneOf(once(late, 5, 99), once("20250101T000012", 12, 99), once("20250101T000010", 10, 99)), 12},
		// A rule gives none before Start.
		{zoneOf(yearly("20250601T000000", 30, 99, "BYMONTH=1;BYMONTHDAY=1"), once("20250201T000000", 40, 99)), 40},
	} {
		for _, utc := range []int64{firstValid, firstValid + 1, at("20000101T000000"), at("20221231T000000")} {
			checkOffset(t, c.z, utc, c.want)
		}
	}
}

// TestOnsetsThatAreNotValid has onsets before the first valid second and behind the last one.
func TestOnsetsThatAreNotValid(t *testing.T) {
	z := zoneOf(once("00010101T000000", 1, 60), once("99991231T235959", -1, 120))
	checkOffset(t, z, firstValid, 60)
	checkOffset(t, z, lastValid, 60)
	z = zoneOf(once("00010101T000000", 0, 60), once("99991231T235959", 0, 120))
	checkOffset(t, z, firstValid, 60)
	checkOffset(t, z, lastValid-1, 60)
	checkOffset(t, z, lastValid, 120)
	// Both are before the first valid second; the later one counts, not the earlier.
	z = zoneOf(once("00010101T000000", 100, 60), once("00010101T000000", 200, 90))
	checkOffset(t, z, firstValid, 60)
	// They are simultaneous.
	z = zoneOf(once("00010101T000000", 100, 60), once("00010101T000100", 160, 90))
	checkOffset(t, z, firstValid, 90)
}

func TestFirstAndLastYears(t *testing.T) {
	z := zoneOf(yearly("00010101T000000", 0, hour, "BYMONTH=1;BYMONTHDAY=1"), yearly("00010701T000000", hour, 0, "BYMONTH=7;BYMONTHDAY=1"))
	checkChange(t, z, "00020101T000000", 0, hour)
	checkChange(t, z, "00010630T230000", hour, 0)
	checkReadings(t, z, []reading{{"00010101T000000", hour}, {"99991231T235959", 0}})
	z = zoneOf(yearly("00010101T000000", 0, hour, "BYMONTH=12;BYMONTHDAY=31"), yearly("00010701T000000", hour, 0, "BYMONTH=7;BYMONTHDAY=1"))
	checkReadings(t, z, []reading{{"99991230T235959", 0}, {"99991231T000000", hour}, {"99991231T225959", hour}, {"00011230T235959", 0}, {"00011231T000000", hour}})
	// Recurrences whose onsets are in the year before, or in the next one.
	z = zoneOf(yearly("00010101T000000", 86399, hour, "BYMONTH=1;BYMONTHDAY=1"), yearly("00010701T000000", hour, 0, "BYMONTH=7;BYMONTHDAY=1"))
	checkChange(t, z, "20251231T000001", 0, hour)
	checkChange(t, z, "99981231T000001", 0, hour)
	checkOffset(t, z, lastValid, 0)
	z = zoneOf(yearly("00011231T000000", -86399, hour, "BYMONTH=12;BYMONTHDAY=31"), yearly("00010701T000000", hour, 0, "BYMONTH=7;BYMONTHDAY=1"))
	checkChange(t, z, "20251231T235959", 0, hour)
	checkChange(t, z, "99991231T235957", 0, 0)
	checkOffset(t, z, lastValid, hour)
	checkOffset(t, z, firstValid, hour)
	z = zoneOf(yearly("00011231T235959", -86399, hour, "BYMONTH=12;BYMONTHDAY=31"), yearly("00010701T000000", hour, 0, "BYMONTH=7;BYMONTHDAY=1"))
	checkChange(t, z, "20260101T235958", 0, hour)
	checkOffset(t, z, lastValid, 0)
}
