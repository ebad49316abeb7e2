package value_test

import (
	"fmt"
	"math"
	"math/big"
	"math/rand"
	"regexp"
	"strings"
	"testing"

	"tryst/api"
	"tryst/value"
)

const (
	minute  = 60
	hour    = 3600
	week    = 604800
	longest = 10000000000
)

// writtenForm is the form of a duration other than 0 as it is written: no part has leading zeros, hours,
// minutes and seconds have no more than belongs to the part before them, and of these the first and the
// last one are not 0.
var writtenForm = func() *regexp.Regexp {
	hours, sixty, some := `(?:[1-9]|1\d|2[0-3])H`, `(?:\d|[1-5]\d)`, `(?:[1-9]|[1-5]\d)`
	rest := `T(?:` + hours + `(?:` + some + `M|` + sixty + `M` + some + `S)?|` + some + `M(?:` + some + `S)?|` + some + `S)`
	return regexp.MustCompile(`\A-?P(?:[1-9]\d*W|[1-9]\d*D(?:` + rest + `)?|` + rest + `)\z`)
}()

// readForm is the form of a duration as it is read.
var readForm = func() *regexp.Regexp {
	n := `([0-9]{1,10})`
	time := `T(?:` + n + `H(?:` + n + `M(?:` + n + `S)?)?|` + n + `M(?:` + n + `S)?|` + n + `S)`
	return regexp.MustCompile(`\A[+-]?P(?:` + n + `W|` + n + `D(?:` + time + `)?|` + time + `)\z`)
}()

// unitsOfForm are the seconds of what the groups of readForm count.
var unitsOfForm = []int64{week, day, hour, minute, 1, minute, 1, 1, hour, minute, 1, minute, 1, 1}

// readDuration is a second way to read a duration: by a form, with sums of any size.
func readDuration(s string) (int64, api.Errno) {
	groups := readForm.FindStringSubmatch(s)
	if groups == nil {
		return 0, api.ErrValue
	}
	sum := new(big.Int)
	for i, unit := range unitsOfForm {
		if groups[i+1] != "" {
			n, _ := new(big.Int).SetString(groups[i+1], 10)
			sum.Add(sum, n.Mul(n, big.NewInt(unit)))
		}
	}
	if sum.Cmp(big.NewInt(longest)) > 0 {
		return 0, api.ErrValue
	}
	if s[0] == '-' {
		sum.Neg(sum)
	}
	return sum.Int64(), api.OK
}

// checkReadDuration holds ParseDuration against the second way.
func checkReadDuration(t *testing.T, s string) {
	t.Helper()
	want, wantE := readDuration(s)
	if n, e := value.ParseDuration(s); n != want || e != wantE {
		t.Errorf("ParseDuration(%q) = %d, %v, want %d, %v", s, n, e, want, wantE)
	}
}

func checkDurationRead(t *testing.T, s string, want int64) {
	t.Helper()
	if n, e := value.ParseDuration(s); n != want || e != api.OK {
		t.Errorf("ParseDuration(%q) = %d, %v, want %d, OK", s, n, e, want)
	}
	checkReadDuration(t, s)
}

func checkNotDuration(t *testing.T, s string) {
	t.Helper()
	if n, e := value.ParseDuration(s); n != 0 || e != api.ErrValue {
		t.Errorf("ParseDuration(%q) = %d, %v, want 0, ErrValue", s, n, e)
	}
	checkReadDuration(t, s)
}

// checkDuration checks that n is written in the form that the chapter gives, and that it is read unchanged.
func checkDuration(t *testing.T, n int64) {
	t.Helper()
	s, e := value.Duration(n)
	if e != api.OK {
		t.Errorf("Duration(%d) = %q, %v", n, s, e)
	}
	if n == 0 && s != "P0D" || n != 0 && !writtenForm.MatchString(s) {
		t.Errorf("Duration(%d) = %q, which is not the form of one", n, s)
	}
	if weeks := n != 0 && n%week == 0; strings.HasSuffix(s, "W") != weeks {
		t.Errorf("Duration(%d) = %q, want weeks: %v", n, s, weeks)
	}
	if strings.HasPrefix(s, "-") != (n < 0) {
		t.Errorf("Duration(%d) = %q", n, s)
	}
	if m, e := readDuration(s); m != n || e != api.OK {
		t.Errorf("Duration(%d) = %q, which denotes %d, %v", n, s, m, e)
	}
	if m, e := value.ParseDuration(s); m != n || e != api.OK {
		t.Errorf("ParseDuration(Duration(%d)) = ParseDuration(%q) = %d, %v", n, s, m, e)
	}
}

// P12.2: Duration

// durations are durations with their texts, each worked out by itself.
var durations = []struct {
	n    int64
	text string
}{
	{0, "P0D"}, {1, "PT1S"}, {59, "PT59S"}, {60, "PT1M"}, {61, "PT1M1S"}, {119, "PT1M59S"}, {120, "PT2M"}, {3599, "PT59M59S"},
	{3600, "PT1H"}, {3601, "PT1H0M1S"}, {3605, "PT1H0M5S"}, {3659, "PT1H0M59S"}, {3660, "PT1H1M"}, {3661, "PT1H1M1S"}, {5400, "PT1H30M"},
	{7199, "PT1H59M59S"}, {7200, "PT2H"}, {82800, "PT23H"}, {86399, "PT23H59M59S"},
	{86400, "P1D"}, {86401, "P1DT1S"}, {86460, "P1DT1M"}, {86461, "P1DT1M1S"}, {90000, "P1DT1H"}, {90001, "P1DT1H0M1S"}, {90060, "P1DT1H1M"}, {90061, "P1DT1H1M1S"}, {93600, "P1DT2H"},
	{172799, "P1DT23H59M59S"}, {172800, "P2D"}, {518400, "P6D"}, {604799, "P6DT23H59M59S"},
	{604800, "P1W"}, {604801, "P7DT1S"}, {604860, "P7DT1M"}, {608400, "P7DT1H"}, {691200, "P8D"}, {1123200, "P13D"},
	{1209599, "P13DT23H59M59S"}, {1209600, "P2W"}, {1209601, "P14DT1S"}, {6048000, "P10W"}, {8640000, "P100D"}, {60480000, "P100W"},
	{9999763200, "P16534W"}, {9999763201, "P115738DT1S"}, {9999936000, "P115740D"}, {9999999999, "P115740DT17H46M39S"}, {10000000000, "P115740DT17H46M40S"},
}

func TestDurationOrdinary(t *testing.T) {
	for _, c := range durations {
		for _, sign := range []string{"", "-"} {
			n, text := c.n, sign+c.text
			if sign == "-" {
				n = -n
			}
			if n == 0 {
				text = "P0D"
			}
			if s, e := value.Duration(n); s != text || e != api.OK {
				t.Errorf("Duration(%d) = %q, %v, want %q, OK", n, s, e, text)
			}
			checkDuration(t, n)
			checkDurationRead(t, text, n)
			if sign == "" {
				checkDurationRead(t, "+"+text, n)
			}
		}
	}
}

func TestDurationLimits(t *testing.T) {
	for _, n := range []int64{longest, longest - 1, -longest, -longest + 1} {
		checkDuration(t, n)
	}
	for _, n := range []int64{
		longest + 1, longest + 2, -longest - 1, -longest - 2, 16535 * week, -16535 * week, 2 * longest, math.MaxInt64, math.MaxInt64 - 1, math.MinInt64, math.MinInt64 + 1,
		math.MaxInt64 / week * week, math.MinInt64 / week * week, 1 << 62, -1 << 62,
		// The low bits of these are durations.
		1<<40 + 5400, -1<<40 + 5400, 1<<62 + 5400, math.MinInt64 + 5400,
	} {
		if s, e := value.Duration(n); s != "" || e != api.ErrValue {
			t.Errorf("Duration(%d) = %q, %v, want no text, ErrValue", n, s, e)
		}
	}
}

// TestDurationsNear tries all durations of up to a day and some hours, and those near the multiples of each
// unit; together with the form and the value of each, this leaves no other text to be right.
func TestDurationsNear(t *testing.T) {
	for n := int64(-25 * hour); n <= 25*hour; n++ {
		checkDuration(t, n)
	}
	for _, unit := range []int64{minute, hour, day, week} {
		for times := int64(1); times*unit < longest; times = times*5/4 + 1 {
			for _, less := range []int64{-hour, -minute, -1, 0, 1, minute, hour, hour + 1} {
				if n := times*unit + less; n <= longest {
					checkDuration(t, n)
					checkDuration(t, -n)
				}
			}
		}
	}
	for weeks := int64(1); weeks <= longest/week; weeks += 13 {
		for _, less := range []int64{-1, 0, 1} {
			checkDuration(t, weeks*week+less)
			checkDuration(t, -weeks*week+less)
		}
	}
}

// P12.2: ParseDuration

func TestReadDurationForms(t *testing.T) {
	for s, n := range map[string]int64{
		"P1W": week, "P1D": day, "PT1H": hour, "PT1M": minute, "PT1S": 1,
		"P0W": 0, "P0D": 0, "PT0H": 0, "PT0M": 0, "PT0S": 0, "-P0W": 0, "-P0D": 0, "+P0D": 0, "-PT0S": 0, "P0DT0H0M0S": 0, "PT0H0M0S": 0,
		"PT1H2M": 3720, "PT1M2S": 62, "PT1H2M3S": 3723, "P1DT1H": 90000, "P1DT1M": 86460, "P1DT1S": 86401, "P1DT1H2M": 90120, "P1DT1M2S": 86462, "P1DT1H2M3S": 90123,
		"PT1H0M": hour, "PT0H5M": 300, "PT0H0M5S": 5, "PT1H0M5S": 3605, "P0DT5S": 5,
		"PT24H": day, "PT90M": 5400, "PT3600S": hour, "P7D": week, "P30D": 30 * day, "PT100H100M100S": 366100,
		"+P1DT2H": 93600, "-P1DT2H": -93600, "-P3W": -3 * week, "+P3W": 3 * week, "-PT1H2M3S": -3723,
		"P007D": week, "P01W": week, "PT0000000001S": 1, "P0000000001DT0000000001H0000000001M0000000001S": 90061, "P0000000000W": 0,
	} {
		checkDurationRead(t, s, n)
	}
}

func TestReadDurationNotForms(t *testing.T) {
	for _, s := range []string{
		"", "P", "T", "PT", "+", "-", "+P", "-P", "-PT", "1", "1D", "D", "PD", "PW", "P1", "P12", "PT1", "PTH", "PTS", "P1DT", "P1DTH", "P1DT1", "P1TD", "PT1DT",
		"P1H", "P1M", "P1S", "PT1D", "PT1W", "P1D1H", "P1D2", "P1D2S", "P1DT1D", "P1DT1W", "P1WT1H", "P1WT", "P1W1D", "P1D1W", "P1W1W", "P1D1D", "P1W2", "PT1H1W", "PT1S1D",
		"PT1H5S", "P1DT1H5S", "PT1M1H", "PT1S1M", "PT1S1H", "PT1H1H", "PT1M1M", "PT1S1S", "PT1H1M1M", "PT1H1M1S1S", "PT1H1M1H", "PT1M1S1H", "PT1H1S1M", "PT1HT1M", "PTT1H", "PT1H2", "PT1H2M3", "PT1M2",
		"P1Y", "P1M1D", "P1Y2M", "PP1D", "P1DP", "P1DP1D", "TP1H",
		"++P1D", "--P1D", "+-P1D", "-+P1D", "P+1D", "P-1D", "PT-1H", "PT+1H", "PT1H-1M", "P1-D", "P1D+", "P1D-", "P1DT-1H", "P1D-T1H", "−P1D",
		"p1d", "P1d", "p1D", "P1w", "PT1h", "pt1h", "Pt1H", "PT1m", "PT1s", "P1Dt1H",
		" P1D", "P1D ", "P 1D", "P1 D", "P1D T1H", "P1DT 1H", "- P1D", "+ P1D", "\tP1D", "P1D\n", "P1D\r\n", "\x00P1D", "P1D\x00", "P1\x00", "P\x00", "PT1\x00", "P1D\x00T1H",
		"P1.5D", "P1,5D", "PT1.0S", "P1_0D", "P0x1D", "P1e3D", "P１D", "P٣D", "PT1Ｈ", "Ｐ1D", "P1D\xff", "\xffP1D",
	} {
		checkNotDuration(t, s)
	}
}

// TestReadDurationAllTexts tries all texts of a few words behind each beginning.
func TestReadDurationAllTexts(t *testing.T) {
	words := []string{"P", "T", "1W", "2D", "3H", "4M", "5S", "6", "+", "-"}
	var all func(s string, left int)
	all = func(s string, left int) {
		checkReadDuration(t, s)
		if left > 0 {
			for _, word := range words {
				all(s+word, left-1)
			}
		}
	}
	all("", 5)
	for _, begin := range []string{"P", "PT", "-P1D", "P1DT", "PT1H", "+PT1H", "-PT1H1M"} {
		all(begin, 4)
	}
	words = []string{"P", "T", "W", "D", "H", "M", "S", "0", "7", "-"}
	for _, begin := range []string{"", "P", "PT", "P1DT"} {
		all(begin, 5)
	}
}

// TestReadDurationEachByte cuts texts short, and puts each byte at each place of them: instead of what
// stands there, and between.
func TestReadDurationEachByte(t *testing.T) {
	for _, text := range []string{"P3W", "-P15W", "+P15DT5H7M20S", "P1DT0H0M20S", "PT1H2M", "-PT5M9S", "PT7S", "P9999999999W"} {
		for i := range len(text) + 1 {
			checkReadDuration(t, text[:i])
			checkReadDuration(t, text[i:])
			if i < len(text) {
				checkReadDuration(t, text[:i]+text[i+1:])
			}
			for c := range 256 {
				s := string([]byte{byte(c)})
				checkReadDuration(t, text[:i]+s+text[i:])
				if i < len(text) {
					checkReadDuration(t, text[:i]+s+text[i+1:])
				}
			}
		}
		checkReadDuration(t, text+text)
		checkReadDuration(t, text+"é")
	}
}

// TestReadDurationDigits tries numbers of each number of digits at each place.
func TestReadDurationDigits(t *testing.T) {
	forms := []string{"P%sW", "P%sD", "PT%sH", "PT%sM", "PT%sS", "P%sDT1H", "P1DT%sH", "P1DT%sM", "P1DT%sS", "PT%sH1M", "PT1H%sM", "PT%sH1M1S", "PT1H%sM1S", "PT1H1M%sS", "PT%sM1S", "PT1M%sS"}
	for _, form := range forms {
		checkNotDuration(t, fmt.Sprintf(form, ""))
		for n := 1; n <= 25; n++ {
			small := fmt.Sprintf(form, strings.Repeat("0", n-1)+"2")
			for _, sign := range []string{"", "+", "-"} {
				if _, e := value.ParseDuration(sign + small); (e == api.OK) != (n <= 10) {
					t.Errorf("ParseDuration(%q) returns %v for a number of %d digits", sign+small, e, n)
				}
				checkReadDuration(t, sign+small)
				for _, digit := range []string{"0", "1", "4", "9"} {
					checkReadDuration(t, sign+fmt.Sprintf(form, strings.Repeat(digit, n)))
				}
			}
		}
		// Numbers that, or whose seconds, do not fit in an int64, or come back to something small there.
		for _, n := range []string{
			"9223372036854775807", "9223372036854775808", "18446744073709551615", "18446744073709551616", "18446744073709551617",
			"15250284452472", "30500568904944", "213503982334601", "5124095576030432", "307445734561825861", "15250284452471", "10000000000", "99999999999", "1" + strings.Repeat("0", 300),
		} {
			checkNotDuration(t, fmt.Sprintf(form, n))
			checkNotDuration(t, "-"+fmt.Sprintf(form, n))
		}
	}
	checkNotDuration(t, "P"+strings.Repeat("1", 1<<20)+"D")
	checkNotDuration(t, "P"+strings.Repeat("1D", 1<<20))
}

// TestReadDurationSums tries sums of 10^10 and of one second more, and the most of each unit and one more.
func TestReadDurationSums(t *testing.T) {
	for _, form := range []string{
		"P115740DT17H46M4%dS", "P0115740DT6400%dS", "P115739DT41H46M4%dS", "P115740DT1066M4%dS", "PT2777777H46M4%dS", "PT0H166666666M4%dS",
		"PT1H0M999999640%dS", "PT166666666M4%dS", "PT1M999999994%dS", "P1DT999991360%dS", "P1DT0H0M999991360%dS",
	} {
		most, more := fmt.Sprintf(form, 0), fmt.Sprintf(form, 1)
		checkDurationRead(t, most, longest)
		checkDurationRead(t, "+"+most, longest)
		checkDurationRead(t, "-"+most, -longest)
		checkNotDuration(t, more)
		checkNotDuration(t, "+"+more)
		checkNotDuration(t, "-"+more)
	}
	for _, c := range []struct {
		most string
		n    int64
		more string
	}{
		{"P16534W", 9999763200, "P16535W"}, {"P115740D", 9999936000, "P115741D"}, {"PT2777777H", 9999997200, "PT2777778H"}, {"PT166666666M", 9999999960, "PT166666667M"},
		// The number itself is too long.
		{"PT9999999999S", 9999999999, "PT10000000000S"},
	} {
		checkDurationRead(t, c.most, c.n)
		checkDurationRead(t, "-"+c.most, -c.n)
		checkNotDuration(t, c.more)
		checkNotDuration(t, "-"+c.more)
	}
	checkDurationRead(t, "PT4294967296S", 1<<32)
	checkDurationRead(t, "-PT4294967297S", -1<<32-1)
	for _, s := range []string{"P9999999999W", "P9999999999D", "PT9999999999H", "PT9999999999M", "P9999999999DT9999999999H9999999999M9999999999S"} {
		checkNotDuration(t, s)
		checkNotDuration(t, "-"+s)
	}
}

// P12.3: durations that are written are read unchanged, and what is read is written and read unchanged.
func TestDurationRoundTrip(t *testing.T) {
	random := rand.New(rand.NewSource(12))
	for range 50000 {
		checkDuration(t, random.Int63n(2*longest+1)-longest)
		checkDuration(t, random.Int63n(2*longest/minute+1)*minute-longest/minute*minute)
		checkDuration(t, random.Int63n(2*longest/hour+1)*hour-longest/hour*hour)
	}
	for range 50000 {
		s := []string{"", "+", "-"}[random.Intn(3)] + fmt.Sprintf("P%dDT%dH%dM%dS", random.Intn(200000), random.Intn(100), random.Intn(100), random.Intn(100))
		checkReadDuration(t, s)
		if n, e := value.ParseDuration(s); e == api.OK {
			checkDuration(t, n)
		}
	}
}

// DOC.md P5: any bytes are read or rejected.
func TestReadDurationAnyBytes(t *testing.T) {
	random := rand.New(rand.NewSource(5))
	letters := "PTWDHMS+-0123456789 \x00\xffé"
	for range 200000 {
		s := make([]byte, random.Intn(12))
		for i := range s {
			s[i] = letters[random.Intn(len(letters))]
		}
		checkReadDuration(t, string(s))
		checkReadDuration(t, "P"+string(s))
	}
}
