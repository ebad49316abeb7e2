package value_test

import (
	"fmt"
	"math"
	"math/rand"
	"regexp"
	"strconv"
	"strings"
	"testing"

	"tryst/api"
	"tryst/value"
)

var offsetForm = regexp.MustCompile(`\A[+-](?:[01][0-9]|2[0-3])[0-5][0-9](?:[0-5][0-9])?\z`)

// readOffset is a second way to read an offset: by a form and by place.
func readOffset(s string) (int, api.Errno) {
	if !offsetForm.MatchString(s) || s == "-0000" || s == "-000000" {
		return 0, api.ErrValue
	}
	n := 0
	for i, unit := range []int{36000, 3600, 600, 60, 10, 1} {
		if i+1 < len(s) {
			n += unit * strings.IndexByte("0123456789", s[i+1])
		}
	}
	if s[0] == '-' {
		n = -n
	}
	return n, api.OK
}

func checkReadOffset(t *testing.T, s string) {
	t.Helper()
	want, wantE := readOffset(s)
	if n, e := value.ParseOffset(s); n != want || e != wantE {
		t.Errorf("ParseOffset(%q) = %d, %v, want %d, %v", s, n, e, want, wantE)
	}
}

func checkOffsetRead(t *testing.T, s string, want int) {
	t.Helper()
	if n, e := value.ParseOffset(s); n != want || e != api.OK {
		t.Errorf("ParseOffset(%q) = %d, %v, want %d, OK", s, n, e, want)
	}
	checkReadOffset(t, s)
}

func checkNotOffset(t *testing.T, s string) {
	t.Helper()
	if n, e := value.ParseOffset(s); n != 0 || e != api.ErrValue {
		t.Errorf("ParseOffset(%q) = %d, %v, want 0, ErrValue", s, n, e)
	}
	checkReadOffset(t, s)
}

// P12.2: Offset

func TestOffsetOrdinary(t *testing.T) {
	for _, c := range []struct {
		n    int
		text string
	}{
		{0, "+0000"}, {1, "+000001"}, {-1, "-000001"}, {59, "+000059"}, {-59, "-000059"}, {60, "+0001"}, {-60, "-0001"}, {61, "+000101"}, {-61, "-000101"},
		{3599, "+005959"}, {-3599, "-005959"}, {3600, "+0100"}, {-3600, "-0100"}, {3601, "+010001"}, {19800, "+0530"}, {-19800, "-0530"}, {-12600, "-0330"}, {45900, "+1245"},
		{36000, "+1000"}, {-36000, "-1000"}, {-17762, "-045602"}, {86340, "+2359"}, {-86340, "-2359"}, {86399, "+235959"}, {-86399, "-235959"}, {86398, "+235958"}, {82800, "+2300"},
	} {
		if s, e := value.Offset(c.n); s != c.text || e != api.OK {
			t.Errorf("Offset(%d) = %q, %v, want %q, OK", c.n, s, e, c.text)
		}
		checkOffsetRead(t, c.text, c.n)
	}
}

func TestOffsetLimits(t *testing.T) {
	for _, n := range []int{
		86400, 86401, -86400, -86401, 90000, -90000, 100000, 360000, 1000000, math.MaxInt32, math.MinInt32, math.MaxInt64, math.MaxInt64 - 1, math.MinInt64, math.MinInt64 + 1,
		// The low bits of these are offsets.
		1<<32 + 3600, -1<<32 + 3600, 1<<62 + 3600, math.MinInt64 + 3600,
	} {
		if s, e := value.Offset(n); s != "" || e != api.ErrValue {
			t.Errorf("Offset(%d) = %q, %v, want no text, ErrValue", n, s, e)
		}
	}
}

// TestEachOffset writes each offset in a second way. (P12.3: what is written is read unchanged.)
func TestEachOffset(t *testing.T) {
	for n := range 86400 {
		short := fmt.Sprintf("%02d%02d", n/3600, n/60%60)
		long := short + fmt.Sprintf("%02d", n%60)
		text := long
		if n%60 == 0 {
			text = short
		}
		for _, sign := range []string{"+", "-"} {
			m := n
			if sign == "-" {
				m = -n
			}
			if m == 0 && sign == "-" {
				continue
			}
			if s, e := value.Offset(m); s != sign+text || e != api.OK {
				t.Errorf("Offset(%d) = %q, %v, want %q, OK", m, s, e, sign+text)
			}
			checkOffsetRead(t, sign+text, m)
			checkOffsetRead(t, sign+long, m)
		}
	}
}

// P12.2: ParseOffset

func TestReadOffsetOrdinary(t *testing.T) {
	for s, n := range map[string]int{
		"+0000": 0, "+000000": 0, "+0100": 3600, "+010000": 3600, "-0100": -3600, "-010000": -3600, "+2300": 82800, "+2359": 86340, "-235959": -86399, "-0001": -60, "-000100": -60, "-000001": -1,
	} {
		checkOffsetRead(t, s, n)
	}
	for _, s := range []string{
		"", "+", "-", "-0000", "-000000", "+2400", "-2400", "+240000", "+2360", "+0060", "-0060", "+000060", "-000060", "+235960", "+9999", "+999999", "+0099", "+000099", "+3000", "+2459",
		"0000", "0100", "00000", "010000", "0000000", "+0", "+01", "+010", "+01000", "+0100000", "+01000000", "++0100", "--0100", "+-0100", "-+0100", "+ 0100", " +0100", "+0100 ", "+01:00", "+01:00:00", "+0100\n",
		"Z", "z", "+Z", "UTC", "*0100", ",0100", ".0100", " 0100", "+0x00", "+00x0", "+x000", "+000x", "+0000x0", "+00000x", "+-100", "+01-1", "+0100-1", "+0100+1", "+1.00", "+1e01", "+1_00", "＋0100", "−0100", "+０100", "+٠١٠٠", "+\x00\x00\x00\x00",
	} {
		checkNotOffset(t, s)
	}
}

// TestReadOffsetAllDigits tries all four and all six digits with each sign.
func TestReadOffsetAllDigits(t *testing.T) {
	check := func(s string, n, hour, minute, second int) {
		want, wantE := 3600*hour+60*minute+second, api.OK
		if s[0] == '-' {
			want = -want
		}
		if hour > 23 || minute > 59 || second > 59 || s[0] == '-' && n == 0 {
			want, wantE = 0, api.ErrValue
		}
		if m, e := value.ParseOffset(s); m != want || e != wantE {
			t.Errorf("ParseOffset(%q) = %d, %v, want %d, %v", s, m, e, want, wantE)
		}
	}
	for _, sign := range []string{"+", "-"} {
		for n := range 10000 {
			check(sign+strconv.Itoa(10000 + n)[1:], n, n/100, n%100, 0)
		}
		for n := range 1000000 {
			check(sign+strconv.Itoa(1000000 + n)[1:], n, n/10000, n/100%100, n%100)
		}
	}
}

// TestReadOffsetEachByte puts each byte at each place of a text: instead of what stands there, and between.
func TestReadOffsetEachByte(t *testing.T) {
	for _, text := range []string{"+0000", "-0530", "+2359", "-0001", "+000000", "-015030", "+235959", "-000001"} {
		for i := range len(text) + 1 {
			checkReadOffset(t, text[:i])
			checkReadOffset(t, text[i:])
			if i < len(text) {
				checkReadOffset(t, text[:i]+text[i+1:])
			}
			for c := range 256 {
				s := string([]byte{byte(c)})
				checkReadOffset(t, text[:i]+s+text[i:])
				if i < len(text) {
					checkReadOffset(t, text[:i]+s+text[i+1:])
				}
			}
		}
	}
}

// TestReadOffsetLengths tries each length, with each sign.
func TestReadOffsetLengths(t *testing.T) {
	for _, sign := range []string{"", "+", "-"} {
		for n := range 40 {
			s := sign + strings.Repeat("1", n)
			want := sign != "" && (n == 4 || n == 6)
			if _, e := value.ParseOffset(s); (e == api.OK) != want {
				t.Errorf("ParseOffset(%q) returns %v", s, e)
			}
			checkReadOffset(t, s)
		}
		checkNotOffset(t, sign+strings.Repeat("1", 1<<20))
		checkNotOffset(t, sign+strings.Repeat("1", 256+4))
	}
}

// DOC.md P5: any bytes are read or rejected, and what is read is written and read unchanged.
func TestReadOffsetAnyBytes(t *testing.T) {
	random := rand.New(rand.NewSource(7))
	letters := "+-0123456789:Z \x00\xff"
	for range 300000 {
		s := make([]byte, random.Intn(9))
		for i := range s {
			s[i] = letters[random.Intn(len(letters))]
		}
		for _, s := range []string{string(s), "+" + string(s), "-" + string(s)} {
			checkReadOffset(t, s)
			n, e := value.ParseOffset(s)
			if e != api.OK {
				continue
			}
			text, e := value.Offset(n)
			if m, e2 := value.ParseOffset(text); m != n || e != api.OK || e2 != api.OK {
				t.Errorf("%q is read as %d, which is written as %q and read as %d", s, n, text, m)
			}
		}
	}
}
