package clock_test

import (
	"fmt"
	"math"
	"strings"
	"testing"

	"tryst/api"
	"tryst/clock"
)

const (
	firstSecond = 86400
	lastSecond  = 315537983999
)

// moments are seconds with their parts, each worked out by itself.
var moments = []struct {
	at     int64
	day    int
	second int
	date   api.Date
	parts  [3]int
	text   string
}{
	{86400, 1, 0, api.Date{Year: 1, Month: 1, Day: 1}, [3]int{0, 0, 0}, "00010101T000000"},
	{86401, 1, 1, api.Date{Year: 1, Month: 1, Day: 1}, [3]int{0, 0, 1}, "00010101T000001"},
	{172799, 1, 86399, api.Date{Year: 1, Month: 1, Day: 1}, [3]int{23, 59, 59}, "00010101T235959"},
	{172800, 2, 0, api.Date{Year: 1, Month: 1, Day: 2}, [3]int{0, 0, 0}, "00010102T000000"},
	{31622399, 365, 86399, api.Date{Year: 1, Month: 12, Day: 31}, [3]int{23, 59, 59}, "00011231T235959"},
	{31622400, 366, 0, api.Date{Year: 2, Month: 1, Day: 1}, [3]int{0, 0, 0}, "00020101T000000"},
	{63087552000, 730180, 0, api.Date{Year: 2000, Month: 3, Day: 1}, [3]int{0, 0, 0}, "20000301T000000"},
	{63087551999, 730179, 86399, api.Date{Year: 2000, Month: 2, Day: 29}, [3]int{23, 59, 59}, "20000229T235959"},
	{63844848000, 738945, 0, api.Date{Year: 2024, Month: 2, Day: 29}, [3]int{0, 0, 0}, "20240229T000000"},
	{63930384000, 739935, 0, api.Date{Year: 2026, Month: 11, Day: 15}, [3]int{0, 0, 0}, "20261115T000000"},
	{63930384059, 739935, 59, api.Date{Year: 2026, Month: 11, Day: 15}, [3]int{0, 0, 59}, "20261115T000059"},
	{63930384060, 739935, 60, api.Date{Year: 2026, Month: 11, Day: 15}, [3]int{0, 1, 0}, "20261115T000100"},
	{63930387599, 739935, 3599, api.Date{Year: 2026, Month: 11, Day: 15}, [3]int{0, 59, 59}, "20261115T005959"},
	{63930387600, 739935, 3600, api.Date{Year: 2026, Month: 11, Day: 15}, [3]int{1, 0, 0}, "20261115T010000"},
	{63930416707, 739935, 32707, api.Date{Year: 2026, Month: 11, Day: 15}, [3]int{9, 5, 7}, "20261115T090507"},
	{63930430245, 739935, 46245, api.Date{Year: 2026, Month: 11, Day: 15}, [3]int{12, 50, 45}, "20261115T125045"},
	{63930466799, 739935, 82799, api.Date{Year: 2026, Month: 11, Day: 15}, [3]int{22, 59, 59}, "20261115T225959"},
	{63930466800, 739935, 82800, api.Date{Year: 2026, Month: 11, Day: 15}, [3]int{23, 0, 0}, "20261115T230000"},
	{63930470399, 739935, 86399, api.Date{Year: 2026, Month: 11, Day: 15}, [3]int{23, 59, 59}, "20261115T235959"},
	{63930470400, 739936, 0, api.Date{Year: 2026, Month: 11, Day: 16}, [3]int{0, 0, 0}, "20261116T000000"},
	{315537897599, 3652058, 86399, api.Date{Year: 9999, Month: 12, Day: 30}, [3]int{23, 59, 59}, "99991230T235959"},
	{315537897600, 3652059, 0, api.Date{Year: 9999, Month: 12, Day: 31}, [3]int{0, 0, 0}, "99991231T000000"},
	{315537983998, 3652059, 86398, api.Date{Year: 9999, Month: 12, Day: 31}, [3]int{23, 59, 58}, "99991231T235958"},
	{315537983999, 3652059, 86399, api.Date{Year: 9999, Month: 12, Day: 31}, [3]int{23, 59, 59}, "99991231T235959"},
}

func notSeconds() []int64 {
	return []int64{
		firstSecond - 1, firstSecond - 2, 1, 0, -1, -2, 1 - firstSecond, -firstSecond, -firstSecond - 1, -63930416707, -lastSecond,
		lastSecond + 1, lastSecond + 2, lastSecond + firstSecond, 10 * lastSecond,
		math.MinInt32, math.MinInt64, math.MinInt64 + 1, math.MinInt64 / 2, math.MinInt64 + firstSecond,
		math.MaxInt64, math.MaxInt64 - 1, math.MaxInt64 / 2, math.MaxInt64 - firstSecond, 1 << 62, -1 << 62,
		// The low 40 bits of these are valid seconds.
		1<<40 + 63930416707, 1<<62 + 63930416707, -1<<62 + 63930416707, math.MinInt64 + 63930416707,
	}
}

func notDays() []int {
	return []int{
		0, -1, -2, -739935, api.LastDay + 1, api.LastDay + 2, math.MinInt32, math.MaxInt32,
		math.MinInt64, math.MinInt64 + 1, math.MinInt64 + 739935, math.MaxInt64 - 1, math.MaxInt64,
		// 86400 times these wraps round to the seconds of a day.
		1<<57 + 1, 1<<57 + 739935, -1<<57 + 739935, 1<<62 + 739935, -1<<62 + 739935,
	}
}

func notDates() []api.Date {
	return []api.Date{
		{},
		{Year: 0, Month: 1, Day: 1}, {Year: 0, Month: 12, Day: 31}, {Year: -1, Month: 1, Day: 1}, {Year: -4, Month: 2, Day: 29},
		{Year: 10000, Month: 1, Day: 1}, {Year: math.MinInt64, Month: 1, Day: 1}, {Year: math.MaxInt64, Month: 1, Day: 1},
		{Year: 2026, Month: 0, Day: 1}, {Year: 2026, Month: 13, Day: 1}, {Year: 2026, Month: -1, Day: 1},
		{Year: 2026, Month: math.MinInt64, Day: 1}, {Year: 2026, Month: math.MaxInt64, Day: 1},
		{Year: 2026, Month: 1, Day: 0}, {Year: 2026, Month: 1, Day: -1}, {Year: 2026, Month: 1, Day: 32},
		{Year: 2026, Month: 1, Day: math.MinInt64}, {Year: 2026, Month: 1, Day: math.MaxInt64},
		{Year: 2026, Month: 2, Day: 29}, {Year: 1900, Month: 2, Day: 29}, {Year: 2024, Month: 2, Day: 30}, {Year: 2000, Month: 2, Day: 30},
		{Year: 2026, Month: 4, Day: 31}, {Year: 2026, Month: 6, Day: 31}, {Year: 2026, Month: 9, Day: 31}, {Year: 2026, Month: 11, Day: 31},
	}
}

func checkAt(t *testing.T, day, second int, at int64, want api.Errno) {
	if got, e := clock.At(day, second); got != at || e != want {
		t.Errorf("At(%d, %d) = %d, %v, want %d, %v", day, second, got, e, at, want)
	}
}

func checkParts(t *testing.T, at int64, d api.Date, parts [3]int, want api.Errno) {
	if date, p, e := clock.Parts(at); date != d || p != parts || e != want {
		t.Errorf("Parts(%d) = %v, %v, %v, want %v, %v, %v", at, date, p, e, d, parts, want)
	}
}

func checkOf(t *testing.T, d api.Date, hour, minute, second int, at int64, want api.Errno) {
	if got, e := clock.Of(d, hour, minute, second); got != at || e != want {
		t.Errorf("Of(%v, %d, %d, %d) = %d, %v, want %d, %v", d, hour, minute, second, got, e, at, want)
	}
}

func checkAdd(t *testing.T, at, n, sum int64, want api.Errno) {
	if got, e := clock.Add(at, n); got != sum || e != want {
		t.Errorf("Add(%d, %d) = %d, %v, want %d, %v", at, n, got, e, sum, want)
	}
}

// checkText checks that the text is what is written for at, and what is read as it.
func checkText(t *testing.T, at int64, text string) {
	if got, e := clock.Format(at); got != text || e != api.OK {
		t.Errorf("Format(%d) = %q, %v, want %q", at, got, e, text)
	}
	if got, e := clock.Parse(text); got != at || e != api.OK {
		t.Errorf("Parse(%q) = %d, %v, want %d", text, got, e, at)
	}
}

// checkDigits checks that the digits are what is written for the day, and what is read as it.
func checkDigits(t *testing.T, day int, text string) {
	if got, e := clock.FormatDate(day); got != text || e != api.OK {
		t.Errorf("FormatDate(%d) = %q, %v, want %q", day, got, e, text)
	}
	if got, e := clock.ParseDate(text); got != day || e != api.OK {
		t.Errorf("ParseDate(%q) = %d, %v, want %d", text, got, e, day)
	}
}

func checkNoText(t *testing.T, s string) {
	if at, e := clock.Parse(s); at != 0 || e != api.ErrValue {
		t.Errorf("Parse(%q) = %d, %v, want 0, ErrValue", s, at, e)
	}
}

func checkNoDigits(t *testing.T, s string) {
	if day, e := clock.ParseDate(s); day != 0 || e != api.ErrValue {
		t.Errorf("ParseDate(%q) = %d, %v, want 0, ErrValue", s, day, e)
	}
}

// P7.1

func TestMoments(t *testing.T) {
	for _, m := range moments {
		if !clock.Right(m.at) {
			t.Errorf("Right(%d) = false", m.at)
		}
		if got := clock.Day(m.at); got != m.day {
			t.Errorf("Day(%d) = %d, want %d", m.at, got, m.day)
		}
		if got := clock.Second(m.at); got != m.second {
			t.Errorf("Second(%d) = %d, want %d", m.at, got, m.second)
		}
		checkAt(t, m.day, m.second, m.at, api.OK)
		checkParts(t, m.at, m.date, m.parts, api.OK)
		checkOf(t, m.date, m.parts[0], m.parts[1], m.parts[2], m.at, api.OK)
	}
}

func TestNotSeconds(t *testing.T) {
	for _, at := range notSeconds() {
		if clock.Right(at) {
			t.Errorf("Right(%d) = true", at)
		}
		if got := clock.Day(at); got != 0 {
			t.Errorf("Day(%d) = %d, want 0", at, got)
		}
		if got := clock.Second(at); got != 0 {
			t.Errorf("Second(%d) = %d, want 0", at, got)
		}
		checkParts(t, at, api.Date{}, [3]int{}, api.ErrRange)
	}
}

func TestAtOutOfRange(t *testing.T) {
	for _, day := range notDays() {
		for _, second := range []int{0, 1, 32707, 86399, 86400, -1, math.MinInt64, math.MaxInt64} {
			checkAt(t, day, second, 0, api.ErrRange)
		}
	}
	seconds := []int{
		-1, -2, -86399, -86400, -86401, 86400, 86401, 172800, math.MinInt32, math.MaxInt32,
		math.MinInt64, math.MinInt64 + 1, math.MinInt64 / 2, math.MaxInt64 / 2, math.MaxInt64 - 1, math.MaxInt64,
		1 << 32, 1<<32 + 1, -1<<32 + 1,
	}
	for _, day := range []int{1, 2, 739935, api.LastDay - 1, api.LastDay} {
		for _, second := range seconds {
			checkAt(t, day, second, 0, api.ErrRange)
		}
	}
}

// TestEachSecondOfADay counts the hours, minutes and seconds of the first, the last and another day.
func TestEachSecondOfADay(t *testing.T) {
	days := map[int]api.Date{
		1:           {Year: 1, Month: 1, Day: 1},
		738945:      {Year: 2024, Month: 2, Day: 29},
		api.LastDay: {Year: 9999, Month: 12, Day: 31},
	}
	for day, date := range days {
		at := int64(day) * 86400
		for hour := range 24 {
			for minute := range 60 {
				for second := range 60 {
					checkParts(t, at, date, [3]int{hour, minute, second}, api.OK)
					checkOf(t, date, hour, minute, second, at, api.OK)
					checkText(t, at, fmt.Sprintf("%04d%02d%02dT%02d%02d%02d", date.Year, date.Month, date.Day, hour, minute, second))
					at++
				}
				if t.Failed() {
					return
				}
			}
		}
	}
}

func TestOfInvalidDate(t *testing.T) {
	for _, d := range notDates() {
		checkOf(t, d, 0, 0, 0, 0, api.ErrRange)
		checkOf(t, d, 9, 5, 7, 0, api.ErrRange)
		checkOf(t, d, 23, 59, 59, 0, api.ErrRange)
		checkOf(t, d, 24, 60, 60, 0, api.ErrRange)
	}
}

func TestOfInvalidTime(t *testing.T) {
	// 3600 times 2^60, and 60 times 2^62, wrap round to 0.
	far := []int{math.MinInt64, math.MinInt64 + 1, math.MinInt32, math.MaxInt32, math.MaxInt64 - 1, math.MaxInt64, 1 << 32, 1 << 60, -1 << 60, 1 << 62, -1 << 62}
	dates := []api.Date{{Year: 1, Month: 1, Day: 1}, {Year: 2024, Month: 2, Day: 29}, {Year: 2026, Month: 11, Day: 15}, {Year: 9999, Month: 12, Day: 31}}
	for _, d := range dates {
		for _, hour := range append([]int{-1, -2, -24, 24, 25, 47, 99}, far...) {
			checkOf(t, d, hour, 0, 0, 0, api.ErrRange)
			checkOf(t, d, hour, 59, 59, 0, api.ErrRange)
		}
		for _, n := range append([]int{-1, -2, -59, -60, 60, 61, 99, 3600}, far...) {
			checkOf(t, d, 0, n, 0, 0, api.ErrRange)
			checkOf(t, d, 12, n, 30, 0, api.ErrRange)
			checkOf(t, d, 23, n, 59, 0, api.ErrRange)
			checkOf(t, d, 0, 0, n, 0, api.ErrRange)
			checkOf(t, d, 12, 30, n, 0, api.ErrRange)
			checkOf(t, d, 23, 59, n, 0, api.ErrRange)
		}
		checkOf(t, d, 1, -1, 0, 0, api.ErrRange)
		checkOf(t, d, 0, 1, -1, 0, api.ErrRange)
		checkOf(t, d, -1, 60, 0, 0, api.ErrRange)
		checkOf(t, d, 0, -1, 60, 0, api.ErrRange)
	}
}

func TestAdd(t *testing.T) {
	const whole = lastSecond - firstSecond
	for _, c := range [][3]int64{
		{firstSecond, 0, firstSecond}, {firstSecond, 1, firstSecond + 1}, {firstSecond + 1, -1, firstSecond},
		{firstSecond, 86399, 172799}, {firstSecond, 86400, 172800}, {172799, 1, 172800}, {172800, -1, 172799},
		{lastSecond, 0, lastSecond}, {lastSecond, -1, lastSecond - 1}, {lastSecond - 1, 1, lastSecond},
		{firstSecond, whole, lastSecond}, {lastSecond, -whole, firstSecond},
		{63930416707, 0, 63930416707}, {63930416707, 53693, 63930470400}, {63930416707, -32708, 63930383999},
		{63930416707, 63930416707, 127860833414}, {63930416707, -63930330307, firstSecond}, {63930416707, 251607567292, lastSecond},
	} {
		checkAdd(t, c[0], c[1], c[2], api.OK)
	}
}

func TestAddOutOfRange(t *testing.T) {
	for _, c := range [][2]int64{
		{firstSecond, -1}, {firstSecond, -2}, {firstSecond, -firstSecond}, {firstSecond, -firstSecond - 1}, {firstSecond + 1, -2},
		{firstSecond, lastSecond - firstSecond + 1}, {firstSecond, lastSecond}, {lastSecond, firstSecond - lastSecond - 1},
		{lastSecond, 1}, {lastSecond, 2}, {lastSecond, lastSecond}, {lastSecond, -lastSecond}, {lastSecond - 1, 2},
		{63930416707, -63930330308}, {63930416707, -63930416707}, {63930416707, -63930416708}, {63930416707, 251607567293},
		// These are not valid, but the sums, some of them wrapped round, would be.
		{firstSecond - 1, 1}, {0, firstSecond}, {-1, firstSecond + 1}, {lastSecond + 1, -1}, {lastSecond + 2, -2},
		{math.MaxInt64, math.MinInt64 + firstSecond + 1}, {math.MinInt64, math.MinInt64 + firstSecond}, {math.MinInt64 + firstSecond, math.MinInt64},
		{math.MinInt64 + firstSecond, math.MaxInt64}, {math.MaxInt64, firstSecond - math.MaxInt64},
	} {
		checkAdd(t, c[0], c[1], 0, api.ErrRange)
	}
	for _, at := range []int64{firstSecond, firstSecond + 1, 63930416707, lastSecond - 1, lastSecond} {
		for _, n := range []int64{math.MinInt64, math.MinInt64 + 1, math.MinInt64 / 2, math.MaxInt64 / 2, math.MaxInt64 - 1, math.MaxInt64, 1 << 40, -1 << 40} {
			checkAdd(t, at, n, 0, api.ErrRange)
		}
	}
	for _, at := range notSeconds() {
		for _, n := range []int64{0, math.MinInt64, math.MaxInt64} {
			checkAdd(t, at, n, 0, api.ErrRange)
		}
		if n := 63930416707 - at; n != 0 {
			checkAdd(t, at, n, 0, api.ErrRange)
		}
	}
}

// P7.2

func TestTexts(t *testing.T) {
	for _, m := range moments {
		checkText(t, m.at, m.text)
		checkDigits(t, m.day, m.text[:8])
	}
}

func TestFormatOutOfRange(t *testing.T) {
	for _, at := range notSeconds() {
		if s, e := clock.Format(at); s != "" || e != api.ErrRange {
			t.Errorf("Format(%d) = %q, %v, want no text, ErrRange", at, s, e)
		}
	}
	for _, day := range notDays() {
		if s, e := clock.FormatDate(day); s != "" || e != api.ErrRange {
			t.Errorf("FormatDate(%d) = %q, %v, want no text, ErrRange", day, s, e)
		}
	}
}

// length returns the number of days of the month, by a rule that is not layer 1's.
func length(year, month int) int {
	if month == 2 {
		if year%400 == 0 || year%4 == 0 && year%100 != 0 {
			return 29
		}
		return 28
	}
	return 30 + (month+month/8)%2
}

// TestEachDay counts all days by the lengths of the months alone.
func TestEachDay(t *testing.T) {
	day := 0
	for year := 1; year <= api.MaxYear && !t.Failed(); year++ {
		for month := 1; month <= 12; month++ {
			for n := 1; n <= length(year, month); n++ {
				day++
				text := fmt.Sprintf("%04d%02d%02d", year, month, n)
				checkDigits(t, day, text)
				second := day * 7919 % 86400
				at := int64(day)*86400 + int64(second)
				checkText(t, at, fmt.Sprintf("%sT%02d%02d%02d", text, second/3600, second/60%60, second%60))
			}
		}
	}
	if day != api.LastDay {
		t.Errorf("the last day is %d, want %d", day, api.LastDay)
	}
}

// TestEachDateNumber tries each month and day of two digits, with a leap year, two that are not, and
// the first and the last year, and those next to them.
func TestEachDateNumber(t *testing.T) {
	for _, year := range []int{0, 1, 2, 1900, 2000, 2024, 2026, 9998, 9999} {
		for month := range 100 {
			for n := range 100 {
				s := fmt.Sprintf("%04d%02d%02d", year, month, n)
				day, e := clock.ParseDate(s)
				at, f := clock.Parse(s + "T090507")
				if year < 1 || month < 1 || month > 12 || n < 1 || n > length(year, month) {
					if day != 0 || at != 0 || e != api.ErrValue || f != api.ErrValue {
						t.Errorf("%q is read as %d, %v and %d, %v, want ErrValue", s, day, e, at, f)
					}
				} else if e != api.OK || f != api.OK || at != int64(day)*86400+32707 {
					t.Errorf("%q is read as %d, %v and %d, %v", s, day, e, at, f)
				}
			}
		}
	}
}

// TestEachTimeNumber tries each hour, minute and second of two digits.
func TestEachTimeNumber(t *testing.T) {
	for hour := range 100 {
		for minute := range 100 {
			for second := range 100 {
				s := fmt.Sprintf("20261115T%02d%02d%02d", hour, minute, second)
				if hour > 23 || minute > 59 || second > 59 {
					checkNoText(t, s)
					continue
				}
				if at, e := clock.Parse(s); at != int64(63930384000+3600*hour+60*minute+second) || e != api.OK {
					t.Errorf("Parse(%q) = %d, %v", s, at, e)
				}
			}
		}
	}
}

func TestEachYear(t *testing.T) {
	for year := range 10000 {
		s := fmt.Sprintf("%04d", year) + "0229"
		if year > 0 && length(year, 2) == 29 {
			if day, e := clock.ParseDate(s); day == 0 || e != api.OK {
				t.Errorf("ParseDate(%q) = %d, %v", s, day, e)
			}
			continue
		}
		checkNoDigits(t, s)
		checkNoText(t, s+"T000000")
	}
	checkNoDigits(t, "00000101")
	checkNoDigits(t, "00001231")
	checkNoText(t, "00000101T000000")
	checkNoText(t, "00001231T235959")
}

func TestParseOtherLengths(t *testing.T) {
	const text = "20261115T090507"
	for n := range len(text) {
		checkNoText(t, text[:n])
		checkNoText(t, text[len(text)-n:])
		// One character too few, and one too many, at each place.
		checkNoText(t, text[:n]+text[n+1:])
		for _, c := range []string{"0", "1", "T", " ", "Z", "\x00", "\n"} {
			checkNoText(t, text[:n]+c+text[n:])
		}
	}
	for _, s := range []string{"0", " ", "Z", "\x00", "\n", "\r\n", "é", text, "T090507", strings.Repeat("0", 1000)} {
		checkNoText(t, text+s)
		checkNoText(t, s+text)
	}
	for n := range 40 {
		checkNoText(t, strings.Repeat("1", n))
		checkNoText(t, strings.Repeat("T", n))
	}
	checkNoText(t, "2026-11-15T09:05:07")
	checkNoText(t, "120261115T090507")
	checkNoText(t, "+20261115T090507")
	checkNoText(t, "-20261115T090507")
}

func TestParseDateOtherLengths(t *testing.T) {
	const text = "20261115"
	for n := range len(text) {
		checkNoDigits(t, text[:n])
		checkNoDigits(t, text[len(text)-n:])
		checkNoDigits(t, text[:n]+text[n+1:])
		for _, c := range []string{"0", "1", "T", " ", "Z", "\x00", "\n"} {
			checkNoDigits(t, text[:n]+c+text[n:])
		}
	}
	for _, s := range []string{"0", " ", "Z", "T", "\x00", "\n", "\r\n", "é", text, "T090507", strings.Repeat("0", 1000)} {
		checkNoDigits(t, text+s)
		checkNoDigits(t, s+text)
	}
	for n := range 40 {
		if n != 8 {
			checkNoDigits(t, strings.Repeat("1", n))
		}
	}
	checkNoDigits(t, "2026-11-15")
	checkNoDigits(t, "120261115")
	checkNoDigits(t, "+20261115")
	checkNoDigits(t, "-20261115")
	checkNoDigits(t, "0020261115")
}

// TestParseEachByte puts each byte that is not a digit in the place of each digit, and each byte but T
// in the place of T.
func TestParseEachByte(t *testing.T) {
	const text = "20261115T090507"
	for place := range len(text) {
		for b := range 256 {
			c := string([]byte{byte(b)})
			digit := c >= "0" && c <= "9"
			s := text[:place] + c + text[place+1:]
			if place == 8 && c != "T" || place != 8 && !digit {
				checkNoText(t, s)
			}
			if place < 8 && !digit {
				checkNoDigits(t, s[:8])
			}
		}
	}
}

// TestParseWideCharacters puts characters of more than one byte, some of them digits elsewhere, in the
// place of one character, and in that of as many as they have bytes.
func TestParseWideCharacters(t *testing.T) {
	const text = "20261115T090507"
	for _, c := range []string{"é", "Т", "²", "\u0661", "\u0967", "\uff11", "\uff34", "\u2212", "\U0001d7d9", "\ufffd"} {
		for place := range len(text) {
			checkNoText(t, text[:place]+c+text[place+1:])
			if end := place + len(c); end <= len(text) {
				checkNoText(t, text[:place]+c+text[end:])
			}
			if place >= 8 {
				continue
			}
			checkNoDigits(t, text[:place]+c+text[place+1:8])
			if end := place + len(c); end <= 8 {
				checkNoDigits(t, text[:place]+c+text[end:8])
			}
		}
	}
}

// Bytes next to the digits could make up for each other, and signs could be read as part of a number.
func TestParseNearDigits(t *testing.T) {
	for _, s := range []string{
		"2026111:", "202611/5", "2026111?", "20261/15", "+2026111", "-2026111", "2026+111", "2026-111", "202611+5", "202611-5",
		" 2026111", "2026111 ", "2026 115", "2026 1 5", "2_261115", "0x261115", "2026111e", "20:61115", "1:261115", "2026.115", "２026115",
	} {
		checkNoDigits(t, s)
		checkNoText(t, s+"T090507")
	}
	for _, s := range []string{
		"T+90507", "T-90507", "T09+507", "T09-507", "T0905+7", "T0905-7", "T 90507", "T09 507", "T0905 7", "T09050 ", "T09_507",
		"T0:0507", "T/90507", "T0x0507", "t090507", " 090507", "-090507", "0090507", "Z090507", "T09050Z", "T9:5:07", "TT90507", "T1e0507",
	} {
		checkNoText(t, "20261115"+s)
	}
}

func TestParseDatesThatThereAreNot(t *testing.T) {
	for _, s := range []string{
		"20260229", "19000229", "21000229", "20240230", "20000230", "20260230", "20260231", "20260431", "20260631", "20260931", "20261131",
		"20260132", "20261232", "20261100", "20260015", "20261315", "20269915", "20261199", "00000000", "99999999", "00000229", "00010100", "99991232",
	} {
		checkNoDigits(t, s)
		checkNoText(t, s+"T000000")
		checkNoText(t, s+"T090507")
		checkNoText(t, s+"T235959")
	}
}

// FuzzParse holds whatever is read against what is written.
func FuzzParse(f *testing.F) {
	for _, m := range moments {
		f.Add(m.text)
		f.Add(m.text[:8])
	}
	f.Fuzz(func(t *testing.T, s string) {
		if at, e := clock.Parse(s); e != api.OK {
			checkNoText(t, s)
		} else {
			checkText(t, at, s)
		}
		if day, e := clock.ParseDate(s); e != api.OK {
			checkNoDigits(t, s)
		} else {
			checkDigits(t, day, s)
		}
	})
}
