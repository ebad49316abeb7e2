package zone_test

import (
	"testing"

	"tryst/api"
	"tryst/zone"
)

// A conversion is a local time with its UTC time, or with none.
type conversion struct{ local, utc string }

// checkConversions checks the UTC times of local ones.
func checkConversions(t *testing.T, z zone.Zone, list []conversion) {
	t.Helper()
	for _, c := range list {
		if c.utc == "" {
			checkUTC(t, z, at(c.local), 0, api.ErrRange)
			continue
		}
		checkUTC(t, z, at(c.local), at(c.utc), api.OK)
	}
}

// checkUTC checks UTC.
func checkUTC(t *testing.T, z zone.Zone, local, want int64, wanted api.Errno) {
	t.Helper()
	if n, e := zone.UTC(z, local); n != want || e != wanted {
		t.Errorf("the UTC time of %s is %d, %v, want %d, %v", shown(local), n, e, want, wanted)
	}
}

// A shift is UTC seconds, counted from noon, from which on an offset is in effect.
type shift struct {
	from   int64
	offset int
}

// noon is the UTC time that the shifts count from.
var noon = at("20260615T120000")

// shifting returns a zone with the offset before all shifts, and then theirs.
func shifting(offset int, list ...shift) zone.Zone {
	z := zone.Zone{Name: "X"}
	for _, s := range list {
		z.L = append(z.L, zone.Observance{Start: noon + s.from + int64(offset), From: offset, To: s.offset})
		offset = s.offset
	}
	return z
}

// checkNoon checks the UTC time of local seconds, both counted from noon.
func checkNoon(t *testing.T, z zone.Zone, local, utc int64) {
	t.Helper()
	checkUTC(t, z, noon+local, noon+utc, api.OK)
}

func TestUTCAroundTheYear(t *testing.T) {
	checkConversions(t, oslo(), []conversion{
		{"00010101T010000", "00010101T000000"}, {"00010101T005959", ""}, {"19960101T120000", "19960101T110000"}, {"19960701T120000", "19960701T100000"},
		{"19960331T015959", "19960331T005959"}, {"19960331T020000", "19960331T010000"}, {"19960331T025959", "19960331T015959"}, {"19960331T030000", "19960331T010000"},
		{"20260329T015959", "20260329T005959"}, {"20260329T020000", "20260329T010000"}, {"20260329T025959", "20260329T015959"}, {"20260329T030000", "20260329T010000"},
		{"20261025T015959", "20261024T235959"}, {"20261025T020000", "20261025T000000"}, {"20261025T025959", "20261025T005959"}, {"20261025T030000", "20261025T020000"},
		{"20261115T100000", "20261115T090000"}, {"99991231T235959", "99991231T225959"}, {"99990701T000000", "99990630T220000"},
	})
	checkConversions(t, sydney(), []conversion{
		{"20260405T015959", "20260404T145959"}, {"20260405T020000", "20260404T150000"}, {"20260405T025959", "20260404T155959"}, {"20260405T030000", "20260404T170000"},
		{"20261004T015959", "20261003T155959"}, {"20261004T020000", "20261003T160000"}, {"20261004T025959", "20261003T165959"}, {"20261004T030000", "20261003T160000"},
		{"20270101T000000", "20261231T130000"},
	})
}

func TestUTCWithoutOnsets(t *testing.T) {
	for _, offset := range []int{0, 1, -1, hour, -hour, 86399, -86399} {
		z := fixed(offset)
		n := int64(offset)
		for _, utc := range []int64{firstValid, firstValid + 86399, november, lastValid - 86399, lastValid} {
			if local := utc + n; local >= firstValid && local <= lastValid {
				checkUTC(t, z, local, utc, api.OK)
			}
		}
		// Only seconds that are not valid fit these.
		if n > 0 {
			checkUTC(t, z, firstValid, 0, api.ErrRange)
			checkUTC(t, z, firstValid+n-1, 0, api.ErrRange)
			checkUTC(t, z, firstValid+n, firstValid, api.OK)
		}
		if n < 0 {
			checkUTC(t, z, lastValid, 0, api.ErrRange)
			checkUTC(t, z, lastValid+n+1, 0, api.ErrRange)
			checkUTC(t, z, lastValid+n, lastValid, api.OK)
		}
	}
}

func TestGaps(t *testing.T) {
	for _, size := range []int64{1, 2, 60, hour, 86399} {
		for _, before := range []int64{0, -size, -size / 2, 86399 - size} {
			z := shifting(int(before), shift{0, int(before + size)})
			checkNoon(t, z, before-1, -1)
			checkNoon(t, z, before, 0)
			checkNoon(t, z, before+size-1, size-1)
			checkNoon(t, z, before+size, 0)
			checkNoon(t, z, before+size+1, 1)
		}
	}
	// The greatest of all.
	z := shifting(-86399, shift{0, 86399})
	checkNoon(t, z, -86400, -1)
	checkNoon(t, z, -86399, 0)
	checkNoon(t, z, 0, 86399)
	checkNoon(t, z, 86398, 2*86399-1)
	checkNoon(t, z, 86399, 0)
}

func TestFolds(t *testing.T) {
	for _, size := range []int64{1, 2, 60, hour, 86399} {
		for _, after := range []int64{0, -size, -size / 2, 86399 - size} {
			z := shifting(int(after+size), shift{0, int(after)})
			checkNoon(t, z, after-1, -size-1)
			checkNoon(t, z, after, -size)
			checkNoon(t, z, after+size-1, -1)
			checkNoon(t, z, after+size, size)
			checkNoon(t, z, after+size+1, size+1)
		}
	}
	z := shifting(86399, shift{0, -86399})
	checkNoon(t, z, -86400, -2*86399-1)
	checkNoon(t, z, 0, -86399)
	checkNoon(t, z, 86398, -1)
	checkNoon(t, z, 86399, 2*86399)
}

func TestNoChange(t *testing.T) {
	z := shifting(60, shift{0, 60}, shift{5, 60})
	for local := int64(-70); local < 130; local++ {
		checkNoon(t, z, local, local-60)
	}
}

func TestGapsCloseTogether(t *testing.T) {
	// 0 to 9 are skipped, then 10 to 14 are shown, then 15 to 34 are skipped.
	z := shifting(0, shift{0, 10}, shift{5, 30})
	for local, utc := range map[int64]int64{-1: -1, 0: 0, 9: 9, 10: 0, 14: 4, 15: 5, 34: 24, 35: 5, 36: 6} {
		checkNoon(t, z, local, utc)
	}
	// A gap that a fold follows before it is through: what is skipped from 10 on is shown later.
	z = shifting(0, shift{0, 100}, shift{10, 0})
	for local, utc := range map[int64]int64{-1: -1, 0: 0, 5: 5, 9: 9, 10: 10, 50: 50, 99: 99, 100: 0, 109: 9, 110: 110} {
		checkNoon(t, z, local, utc)
	}
	// A fold that a gap follows.
	z = shifting(100, shift{0, 0}, shift{10, 100})
	for local, utc := range map[int64]int64{-1: -101, 0: -100, 9: -91, 10: -90, 99: -1, 100: 100, 109: 109, 110: 10, 150: 50} {
		checkNoon(t, z, local, utc)
	}
	// Two gaps that both have 50: the earlier one counts.
	z = shifting(0, shift{0, 100}, shift{1, -50}, shift{10, 100})
	for local, utc := range map[int64]int64{-50: -50, -41: -41, -1: -1, 0: 0, 50: 50, 99: 99, 100: 0, 101: 151, 109: 159, 110: 10} {
		checkNoon(t, z, local, utc)
	}
	// A gap within a fold, and one beside it.
	z = shifting(100, shift{0, -100}, shift{50, -60}, shift{300, 100})
	for local, utc := range map[int64]int64{-101: -201, -100: -200, -50: -150, -10: -110, 99: -1, 100: 160, 239: 299, 240: 300, 399: 459, 400: 300} {
		checkNoon(t, z, local, utc)
	}
}

func TestFoldsCloseTogether(t *testing.T) {
	// 0 is shown three times.
	z := shifting(100, shift{0, 0}, shift{50, -100})
	for local, utc := range map[int64]int64{-51: -151, -50: -150, 0: -100, 49: -51, 99: -1, 100: 200} {
		checkNoon(t, z, local, utc)
	}
	// 45 is shown from 50 on only.
	z = shifting(10, shift{0, 100}, shift{10, 0}, shift{50, -20})
	for local, utc := range map[int64]int64{9: -1, 10: 10, 30: 30, 45: 45, 49: 49, 50: 70, 99: 119, 100: 0, 109: 9, 110: 130} {
		checkNoon(t, z, local, utc)
	}
}

func TestUTCWithSimultaneousOnsets(t *testing.T) {
	// The offsets 50 and 30 are never in effect: 0 to 19 are skipped.
	z := zoneOf(
		zone.Observance{Start: noon, From: 0, To: 50},
		zone.Observance{Start: noon + 7, From: 7, To: 30},
		zone.Observance{Start: noon - 9, From: -9, To: 20},
	)
	for local, utc := range map[int64]int64{-1: -1, 0: 0, 19: 19, 20: 0, 30: 10, 50: 30} {
		checkNoon(t, z, local, utc)
	}
}

// TestGapBehindSimultaneousOnsets has seconds that an offset which is never in effect would skip at noon, but that a
// gap after it skips.
func TestGapBehindSimultaneousOnsets(t *testing.T) {
	z := zoneOf(
		zone.Observance{Start: noon, From: 0, To: 50},
		zone.Observance{Start: noon, From: 0, To: 20},
		zone.Observance{Start: noon + 5, From: 0, To: 200},
	)
	for local, utc := range map[int64]int64{0: 0, 19: 19, 20: 0, 24: 4, 25: 5, 30: 10, 49: 29, 204: 184, 205: 5} {
		checkNoon(t, z, local, utc)
	}
}

// TestUTCWithOtherFrom has observances whose From is not the offset that is in effect before them.
func TestUTCWithOtherFrom(t *testing.T) {
	// From 0 on the offset is 60, whatever the second observance says of the one before it.
	z := zoneOf(zone.Observance{Start: noon, From: 0, To: 60}, zone.Observance{Start: noon + 5000, From: -1000, To: 100})
	for local, utc := range map[int64]int64{59: 59, 60: 0, 6000: 5940, 6059: 5999, 6060: 6000, 6099: 6039, 6100: 6000} {
		checkNoon(t, z, local, utc)
	}
}

func TestUTCAtTheEnds(t *testing.T) {
	// The gap is before the first valid second, and so is what fits up to 00010101T015959.
	checkConversions(t, zoneOf(once("00010101T000000", hour, 2*hour)), []conversion{
		{"00010101T000000", ""}, {"00010101T005959", ""}, {"00010101T010000", ""}, {"00010101T015959", ""}, {"00010101T020000", "00010101T000000"},
	})
	// The gap begins at the first valid second.
	checkConversions(t, zoneOf(once("00010101T010000", hour, 2*hour)), []conversion{
		{"00010101T005959", ""}, {"00010101T010000", "00010101T000000"}, {"00010101T015959", "00010101T005959"}, {"00010101T020000", "00010101T000000"},
	})
	// The fold has its earlier times before the first valid second, so the later ones count.
	checkConversions(t, zoneOf(once("00010101T010000", hour, 0)), []conversion{
		{"00010101T000000", "00010101T000000"}, {"00010101T005959", "00010101T005959"}, {"00010101T010000", "00010101T010000"},
	})
	// The gap is behind the last valid second.
	checkConversions(t, zoneOf(once("99991231T235959", -hour, hour)), []conversion{
		{"99991231T225959", "99991231T235959"}, {"99991231T230000", ""}, {"99991231T235958", ""}, {"99991231T235959", ""},
	})
	// The gap ends with the last valid second, or behind it.
	checkConversions(t, zoneOf(once("99991231T230000", 0, hour)), []conversion{
		{"99991231T225959", "99991231T225959"}, {"99991231T230000", "99991231T230000"}, {"99991231T235959", "99991231T235959"},
	})
	checkConversions(t, zoneOf(once("99991231T220000", -hour, 0)), []conversion{
		{"99991231T215959", "99991231T225959"}, {"99991231T220000", "99991231T230000"}, {"99991231T225959", "99991231T235959"}, {"99991231T230000", "99991231T230000"},
	})
	checkConversions(t, zoneOf(once("99991231T223000", -hour, 0)), []conversion{
		{"99991231T222959", "99991231T232959"}, {"99991231T225959", "99991231T235959"}, {"99991231T230000", ""}, {"99991231T232959", ""}, {"99991231T233000", "99991231T233000"},
	})
}

// TestEarliestGapIsNotValid has a gap before the first valid second whose local seconds a later gap skips again.
func TestEarliestGapIsNotValid(t *testing.T) {
	noon := int64(firstValid)
	late := zone.Observance{Start: noon + 10, From: 0, To: 7200}
	z := zoneOf(
		zone.Observance{Start: noon, From: hour, To: 7200},
		zone.Observance{Start: noon + 1, From: hour, To: -50000},
		late,
	)
	checkUTC(t, z, noon, 0, api.ErrRange)
	checkUTC(t, z, noon+3599, 0, api.ErrRange)
	// The first gap is through; the second one isn't yet.
	checkUTC(t, z, noon+3601, noon+53601, api.OK)
	// What fits is not valid, which a gap is.
	z = zoneOf(zone.Observance{Start: noon + 100, From: hour, To: -50000}, late)
	checkUTC(t, z, noon+5, noon+50005, api.OK)
	checkUTC(t, z, noon+99, noon+50099, api.OK)
}

func TestLocalAtTheEnds(t *testing.T) {
	for _, c := range []struct {
		offset     int
		utc, local int64
		e          api.Errno
	}{
		{0, firstValid, firstValid, api.OK}, {0, lastValid, lastValid, api.OK},
		{1, lastValid - 1, lastValid, api.OK}, {1, lastValid, 0, api.ErrRange}, {1, firstValid, firstValid + 1, api.OK},
		{-1, firstValid + 1, firstValid, api.OK}, {-1, firstValid, 0, api.ErrRange}, {-1, lastValid, lastValid - 1, api.OK},
		{86399, lastValid - 86399, lastValid, api.OK}, {86399, lastValid - 86398, 0, api.ErrRange},
		{-86399, firstValid + 86399, firstValid, api.OK}, {-86399, firstValid + 86398, 0, api.ErrRange},
	} {
		if n, e := zone.Local(fixed(c.offset), c.utc); n != c.local || e != c.e {
			t.Errorf("the local time at %d with the offset %d is %d, %v, want %d, %v", c.utc, c.offset, n, e, c.local, c.e)
		}
	}
}
