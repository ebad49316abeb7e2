package value_test

import (
	"fmt"
	"math"
	"regexp"
	"slices"
	"strings"
	"testing"
	"time"
	"unsafe"

	"tryst/api"
	"tryst/value"
)

const (
	day         = 86400
	firstSecond = day
	lastSecond  = 315537983999
	lastDate    = 315537897600
)

const nameLetters = "ABCDEFGHIJKLMNOPQRSTUVWXYZabcdefghijklmnopqrstuvwxyz0123456789/_-+"

// times are valid times with their texts, each worked out by itself.
var times = []struct {
	time api.Time
	text string
}{
	{api.Time{Kind: 0, At: firstSecond}, "00010101"},
	{api.Time{Kind: 0, At: 2 * day}, "00010102"},
	{api.Time{Kind: 0, At: 63087465600}, "20000229"},
	{api.Time{Kind: 0, At: 63930384000}, "20261115"},
	{api.Time{Kind: 0, At: lastDate - day}, "99991230"},
	{api.Time{Kind: 0, At: lastDate}, "99991231"},
	{api.Time{Kind: 1, At: firstSecond}, "00010101T000000"},
	{api.Time{Kind: 1, At: firstSecond + 1}, "00010101T000001"},
	{api.Time{Kind: 1, At: 63930384000}, "20261115T000000"},
	{api.Time{Kind: 1, At: 63930416707}, "20261115T090507"},
	{api.Time{Kind: 1, At: lastSecond}, "99991231T235959"},
	{api.Time{Kind: 2, At: firstSecond}, "00010101T000000Z"},
	{api.Time{Kind: 2, At: 63930384000}, "20261115T000000Z"},
	{api.Time{Kind: 2, At: 63930416707}, "20261115T090507Z"},
	{api.Time{Kind: 2, At: lastSecond - 1}, "99991231T235958Z"},
	{api.Time{Kind: 2, At: lastSecond}, "99991231T235959Z"},
	{api.Time{Kind: 3, At: firstSecond, Zone: "Z"}, "00010101T000000"},
	{api.Time{Kind: 3, At: 63930384000, Zone: "Europe/Oslo"}, "20261115T000000"},
	{api.Time{Kind: 3, At: 63930416707, Zone: "America/Port-au-Prince"}, "20261115T090507"},
	{api.Time{Kind: 3, At: 63930416707, Zone: "Etc/GMT+5"}, "20261115T090507"},
	{api.Time{Kind: 3, At: 63930416707, Zone: "/My_zone"}, "20261115T090507"},
	{api.Time{Kind: 3, At: 63930416707, Zone: "0"}, "20261115T090507"},
	{api.Time{Kind: 3, At: lastSecond, Zone: "UTC"}, "99991231T235959"},
}

// checkTime checks that the text is what is written for x, and what is read as it.
func checkTime(t *testing.T, x api.Time, text string) {
	t.Helper()
	if !value.RightTime(x) {
		t.Errorf("RightTime(%#v) = false", x)
	}
	if s, e := value.Time(x); s != text || e != api.OK {
		t.Errorf("Time(%#v) = %q, %v, want %q, OK", x, s, e, text)
	}
	checkRead(t, text, x.Zone, x.Kind == 0, x)
}

func checkRead(t *testing.T, s, zone string, date bool, want api.Time) {
	t.Helper()
	if x, e := value.ParseTime(s, zone, date); x != want || e != api.OK {
		t.Errorf("ParseTime(%q, %q, %v) = %#v, %v, want %#v, OK", s, zone, date, x, e, want)
	}
}

func checkNoTime(t *testing.T, x api.Time) {
	t.Helper()
	if value.RightTime(x) {
		t.Errorf("RightTime(%#v) = true", x)
	}
	if s, e := value.Time(x); s != "" || e != api.ErrValue {
		t.Errorf("Time(%#v) = %q, %v, want no text, ErrValue", x, s, e)
	}
}

func checkNotRead(t *testing.T, s, zone string, date bool) {
	t.Helper()
	if x, e := value.ParseTime(s, zone, date); x != (api.Time{}) || e != api.ErrValue {
		t.Errorf("ParseTime(%q, %q, %v) = %#v, %v, want no time, ErrValue", s, zone, date, x, e)
	}
}

// P12.1: RightTime and Time

func TestTimeOrdinary(t *testing.T) {
	for _, c := range times {
		checkTime(t, c.time, c.text)
	}
}

func TestTimeKinds(t *testing.T) {
	zones := []string{"", "Europe/Oslo", "a b"}
	for kind := -300; kind <= 300; kind++ {
		for _, zone := range zones {
			x := api.Time{Kind: kind, At: 63930384000, Zone: zone}
			switch {
			case kind == 0 && zone == "":
				checkTime(t, x, "20261115")
			case kind == 1 && zone == "", kind == 3 && zone == "Europe/Oslo":
				checkTime(t, x, "20261115T000000")
			case kind == 2 && zone == "":
				checkTime(t, x, "20261115T000000Z")
			default:
				checkNoTime(t, x)
			}
		}
	}
	// The low bits of some of these are a Kind.
	for _, kind := range []int{math.MinInt64, math.MinInt64 + 1, math.MinInt64 + 3, math.MinInt32, math.MaxInt32, math.MaxInt64, 1 << 32, 1<<32 + 1, 1<<32 + 2, 1<<32 + 3, -1<<32 + 2, 1<<62 + 3} {
		for _, zone := range zones {
			checkNoTime(t, api.Time{Kind: kind, At: 63930384000, Zone: zone})
		}
	}
	checkNoTime(t, api.Time{})
}

func TestDateBeginsDay(t *testing.T) {
	for _, begin := range []int64{firstSecond, 63087465600, 63930384000, lastDate} {
		checkTime(t, api.Time{At: begin}, strings.ReplaceAll(dateOf(begin), "-", ""))
		for second := int64(1); second < day; second++ {
			if x := (api.Time{At: begin + second}); value.RightTime(x) {
				t.Fatalf("RightTime(%#v) = true", x)
			}
		}
		for _, second := range []int64{1, 59, 60, 3599, 3600, 43200, 86398, 86399} {
			checkNoTime(t, api.Time{At: begin + second})
		}
	}
}

// dateOf writes the date of valid seconds as Go's own calendar does.
func dateOf(at int64) string {
	return moment(at).Format(time.DateOnly)
}

// moment returns valid seconds as a time of Go's own calendar.
func moment(at int64) time.Time {
	return time.Date(1, 1, 1, 0, 0, 0, 0, time.UTC).AddDate(0, 0, int(at/day)-1).Add(time.Duration(at%day) * time.Second)
}

func TestTimeLimits(t *testing.T) {
	for _, c := range []struct {
		kind int
		zone string
		last int64
	}{{0, "", lastDate}, {1, "", lastSecond}, {2, "", lastSecond}, {3, "Oslo", lastSecond}} {
		for _, at := range []int64{firstSecond, c.last} {
			if x := (api.Time{Kind: c.kind, At: at, Zone: c.zone}); !value.RightTime(x) {
				t.Errorf("RightTime(%#v) = false", x)
			}
		}
		for _, at := range []int64{
			firstSecond - 1, 0, 1, -1, -day, -63930384000, c.last + 1, lastSecond + 1, lastSecond + 1 + day, -lastDate,
			math.MinInt64, math.MinInt64 + 1, math.MaxInt64, math.MaxInt64 - 1, math.MaxInt64 / day * day, math.MinInt64 / day * day, math.MinInt32,
			// The low 40 bits of these are valid seconds.
			1<<40 + 63930384000, 1<<62 + 63930384000, -1<<62 + 63930384000, math.MinInt64 + 63930384000,
		} {
			checkNoTime(t, api.Time{Kind: c.kind, At: at, Zone: c.zone})
		}
	}
}

// TestManyDays holds the texts of every eleventh day, with a time of each of them, against Go's own calendar.
func TestManyDays(t *testing.T) {
	for n := int64(1); n <= api.LastDay; n += 11 {
		begin := n * day
		at := begin + n*7919%day
		m := moment(at)
		checkTime(t, api.Time{At: begin}, m.Format("20060102"))
		checkTime(t, api.Time{Kind: 1, At: at}, m.Format("20060102T150405"))
		checkTime(t, api.Time{Kind: 2, At: at}, m.Format("20060102T150405Z"))
		checkTime(t, api.Time{Kind: 3, At: at, Zone: "X"}, m.Format("20060102T150405"))
	}
}

// P12.1: zone names

// checkZone checks whether a time of that zone is valid and is read; no other Kind has a zone.
func checkZone(t *testing.T, zone string, want bool) {
	t.Helper()
	x := api.Time{Kind: 3, At: 63930416707, Zone: zone}
	if want {
		checkTime(t, x, "20261115T090507")
	} else {
		checkNoTime(t, x)
		if zone != "" {
			checkNotRead(t, "20261115T090507", zone, false)
		}
	}
	if zone == "" {
		return
	}
	for kind := range 3 {
		checkNoTime(t, api.Time{Kind: kind, At: 63930384000, Zone: zone})
	}
	// The text is wrong too, or is that of another Kind.
	for _, s := range []string{"", "Z", "20261115T090507Z", "20261115", "2026"} {
		checkNotRead(t, s, zone, false)
	}
	for _, s := range []string{"20261115", "", "20261115T090507"} {
		checkNotRead(t, s, zone, true)
	}
}

func TestZoneLength(t *testing.T) {
	checkZone(t, "", false)
	for _, c := range []string{"A", "z", "5", "/", "_", "-", "+"} {
		for n := 1; n <= api.MaxName+5; n++ {
			checkZone(t, strings.Repeat(c, n), n <= api.MaxName)
		}
		checkZone(t, strings.Repeat(c, 1000), false)
		checkZone(t, strings.Repeat(c, 256+1), false)
		checkZone(t, strings.Repeat(c, 1<<16+1), false)
	}
	// Fewer characters than MaxName, in more bytes, and the other way round.
	checkZone(t, strings.Repeat("é", api.MaxName/2), false)
	checkZone(t, strings.Repeat("é", api.MaxName), false)
}

func TestZoneEachByte(t *testing.T) {
	for i := range 256 {
		s := string([]byte{byte(i)})
		want := strings.Contains(nameLetters, s)
		for _, zone := range []string{s, s + s, "A" + s, s + "a", "A" + s + "z", "Etc/" + s + "5", s + strings.Repeat("A", api.MaxName-1), strings.Repeat("A", api.MaxName-1) + s} {
			checkZone(t, zone, want)
		}
		checkZone(t, strings.Repeat("A", api.MaxName)+s, false)
	}
}

func TestZoneOtherCharacters(t *testing.T) {
	for _, s := range []string{
		"é", "ö", "ß", "Ω", "я", "Ａ", "ａ", "０", "٣", "／", "＿", "－", "＋", "\u2010", "\u2212", "\u212a", "\u017f", "\u0131", "\u00a0", "\u200b", "\ufeff", "\ufffd", "😀",
		"a b", " a", "a ", "\ta", "a\n", "a\r\n", "\x00", "a\x00", "\"a\"", "a:b", "a;b", "a,b", "a.b", "a=b", "a\\b", "\xff", "\xc3", "a\x80",
	} {
		checkZone(t, s, false)
		checkZone(t, "Europe/"+s, false)
		checkZone(t, s+"/Oslo", false)
	}
}

// P12.1: ParseTime

// TestReadings tries each of the four readings with the text of each of the others.
func TestReadings(t *testing.T) {
	at := int64(63930416707)
	date, local, utc := "20261115", "20261115T090507", "20261115T090507Z"
	checkRead(t, date, "", true, api.Time{Kind: 0, At: 63930384000})
	checkNotRead(t, local, "", true)
	checkNotRead(t, utc, "", true)
	checkNotRead(t, "20261115Z", "", true)
	checkNotRead(t, "20261115T000000", "", true)

	checkRead(t, local, "Oslo", false, api.Time{Kind: 3, At: at, Zone: "Oslo"})
	checkNotRead(t, date, "Oslo", false)
	checkNotRead(t, utc, "Oslo", false)
	checkNotRead(t, "20261115Z", "Oslo", false)

	checkRead(t, utc, "", false, api.Time{Kind: 2, At: at})
	checkRead(t, local, "", false, api.Time{Kind: 1, At: at})
	checkNotRead(t, date, "", false)
	checkNotRead(t, "20261115Z", "", false)
	checkNotRead(t, utc+"Z", "", false)

	// A zone and a date, whatever the text and the zone.
	for _, zone := range []string{"Oslo", "Z", "a b", " "} {
		for _, s := range []string{date, local, utc, ""} {
			checkNotRead(t, s, zone, true)
		}
	}
	// A zone that is not a name, whatever the text.
	for _, zone := range []string{"a b", " ", "é", strings.Repeat("a", api.MaxName+1)} {
		for _, s := range []string{date, local, utc, "", "x"} {
			checkNotRead(t, s, zone, false)
		}
	}
}

var (
	dateForm  = regexp.MustCompile(`\A[0-9]{8}\z`)
	localForm = regexp.MustCompile(`\A[0-9]{8}T[0-9]{6}\z`)
	utcForm   = regexp.MustCompile(`\A[0-9]{8}T[0-9]{6}Z\z`)
	zoneForm  = regexp.MustCompile(`\A[A-Za-z0-9/_+-]{1,60}\z`)
)

// readTime is a second way to read a time: by forms, and by Go's own calendar.
func readTime(s, zone string, date bool) (api.Time, api.Errno) {
	x, form, layout := api.Time{Kind: 1}, localForm, "20060102T150405"
	switch {
	case date && zone == "":
		x.Kind, form, layout = 0, dateForm, "20060102"
	case date, zone != "" && !zoneForm.MatchString(zone):
		return api.Time{}, api.ErrValue
	case zone != "":
		x.Kind, x.Zone = 3, zone
	case strings.HasSuffix(s, "Z"):
		x.Kind, form, layout = 2, utcForm, "20060102T150405Z"
	}
	m, err := time.Parse(layout, s)
	if err != nil || !form.MatchString(s) || m.Year() < 1 {
		return api.Time{}, api.ErrValue
	}
	// Go counts from the beginning of 1970, which is day 719163.
	x.At = m.Unix() + 719163*day
	return x, api.OK
}

// checkAllReadings holds ParseTime against the second way, with each kind of zone and with date and without.
func checkAllReadings(t *testing.T, s string) {
	t.Helper()
	for _, zone := range []string{"", "Oslo", "Z", "a b"} {
		for _, date := range []bool{false, true} {
			want, wantE := readTime(s, zone, date)
			if x, e := value.ParseTime(s, zone, date); x != want || e != wantE {
				t.Errorf("ParseTime(%q, %q, %v) = %#v, %v, want %#v, %v", s, zone, date, x, e, want, wantE)
			}
			if wantE == api.OK {
				if text, e := value.Time(want); text != s || e != api.OK {
					t.Errorf("Time(%#v) = %q, %v, want %q, OK", want, text, e, s)
				}
			}
		}
	}
}

func TestReadTimeOrdinary(t *testing.T) {
	for _, c := range times {
		checkAllReadings(t, c.text)
	}
	for _, s := range []string{
		"", "Z", "T", "TZ", "ZZ", "20261115t090507", "20261115T090507z", "20261115t090507z", "20261115 090507", "20261115  090507",
		" 20261115", "20261115 ", " 20261115T090507", "20261115T090507 ", "20261115T090507 Z", "20261115T090507Z ", "\t20261115", "20261115\n", "20261115T090507\r\n",
		"2026-11-15", "2026-11-15T09:05:07", "20261115T0905", "20261115T090507.0", "20261115T090507,5", "20261115T090507+0100", "+20261115", "-20261115", "-0010101", "+0010101",
		"00000101", "00001231T235959", "00000000", "10000101", "100000101", "100000101T000000", "20261301", "20260001", "20261100", "20261131", "20260229", "19000229", "20000229", "20000230",
		"20261115T240000", "20261115T235960", "20261115T236000", "20261115T246060Z", "20261115T235960Z", "20260229T000000", "20240229T000000Z",
		"２０２６１１１５", "٢٠٢٦١١١٥", "20261115T09050７", "20261115Ｔ090507", "20261115T090507Ｚ",
	} {
		checkAllReadings(t, s)
	}
}

// TestReadTimeEachByte cuts texts short, and puts each byte at each place of them: instead of what stands
// there, and between.
func TestReadTimeEachByte(t *testing.T) {
	for _, text := range []string{"20261115", "20261115T090507", "20261115T090507Z"} {
		for i := range len(text) + 1 {
			checkAllReadings(t, text[:i])
			checkAllReadings(t, text[i:])
			if i < len(text) {
				checkAllReadings(t, text[:i]+text[i+1:])
			}
			for c := range 256 {
				s := string([]byte{byte(c)})
				checkAllReadings(t, text[:i]+s+text[i:])
				if i < len(text) {
					checkAllReadings(t, text[:i]+s+text[i+1:])
				}
			}
		}
		checkAllReadings(t, text+text)
		checkAllReadings(t, text+"é")
		checkAllReadings(t, strings.Repeat(text, 1000))
	}
}

// TestReadTimeNumbers tries each number of two digits at each place of a text.
func TestReadTimeNumbers(t *testing.T) {
	for n := range 100 {
		for _, form := range []string{"2026%02d15", "202602%02d", "202402%02d", "202611%02d", "00%02d0101", "%02d000229", "20261115T%02d0507", "20261115T09%02d07", "20261115T0905%02d"} {
			s := fmt.Sprintf(form, n)
			checkAllReadings(t, s)
			checkAllReadings(t, s+"Z")
			checkAllReadings(t, s+"T000000")
		}
	}
}

// R3: the zone of a result is new memory.
func TestZoneIsNew(t *testing.T) {
	zone := strings.Repeat("Oslo", 3)
	x, e := value.ParseTime("20261115T090507", zone, false)
	if x.Zone != zone || e != api.OK {
		t.Fatalf("ParseTime gives the zone %q, %v", x.Zone, e)
	}
	if unsafe.StringData(x.Zone) == unsafe.StringData(zone) {
		t.Errorf("the zone of the time is that of the argument")
	}
}

// P12.3: a time that is written is read unchanged, and no two times of one Kind are written alike.
func TestTimeRoundTrip(t *testing.T) {
	zone := strings.Repeat("a/B_0-9+", 7)
	for kind, zone := range []string{"", "", "", zone} {
		var texts []string
		step := int64(123457)
		if kind == 0 {
			step = day
		}
		for n := range int64(3000) {
			x := api.Time{Kind: kind, At: 63930384000 + (n-1500)*step, Zone: zone}
			s, e := value.Time(x)
			if e != api.OK {
				t.Errorf("Time(%#v) returns %v", x, e)
			}
			checkRead(t, s, zone, kind == 0, x)
			texts = append(texts, s)
		}
		if !slices.IsSorted(texts) || len(slices.Compact(texts)) != 3000 {
			t.Errorf("texts of Kind %d do not ascend with the times", kind)
		}
	}
}
