package value_test

import (
	"math/rand"
	"regexp"
	"strconv"
	"strings"
	"testing"

	"tryst/api"
	"tryst/value"
)

var numberForm = regexp.MustCompile(`\A-?[0-9]{1,9}\z`)

// checkReadNumber holds Number against a second way: a form and the library's own reading.
func checkReadNumber(t *testing.T, s string) {
	t.Helper()
	want, wantE := 0, api.ErrValue
	if numberForm.MatchString(s) {
		want, _ = strconv.Atoi(s)
		wantE = api.OK
	}
	if n, e := value.Number(s); n != want || e != wantE {
		t.Errorf("Number(%q) = %d, %v, want %d, %v", s, n, e, want, wantE)
	}
}

// P12.2: Number

func TestNumberOrdinary(t *testing.T) {
	for s, want := range map[string]int{
		"0": 0, "1": 1, "9": 9, "-0": 0, "-1": -1, "-9": -9, "10": 10, "-12": -12, "007": 7, "-007": -7, "00": 0, "-00": 0, "000000000": 0, "-000000000": 0, "000000001": 1, "-000000001": -1,
		"12345678": 12345678, "123456789": 123456789, "-123456789": -123456789, "999999999": 999999999, "-999999999": -999999999, "100000000": 100000000, "1000000": 1000000,
	} {
		if n, e := value.Number(s); n != want || e != api.OK {
			t.Errorf("Number(%q) = %d, %v, want %d, OK", s, n, e, want)
		}
		checkReadNumber(t, s)
	}
	for _, s := range []string{
		"", "-", "+", "--", "+1", "+0", "--1", "-+1", "+-1", "1-", "1+", "-1-", "1-1", "1234567890", "-1234567890", "0000000000", "-0000000000", "0000000001", "1000000000", "9999999999",
		" 1", "1 ", "- 1", "-1 ", "1 2", "\t1", "1\n", "1\r\n", "1a", "a1", "a", "0x1", "1e3", "1.0", "1.", ".1", "1,0", "1_0", "１", "٣", "−1", "²", "\x00", "1\x00", "\xff", "1\xff", "/", ":", "-/", "-:", "NaN", "Inf",
		"9223372036854775807", "18446744073709551617", "-9223372036854775808", "4294967297",
	} {
		if n, e := value.Number(s); n != 0 || e != api.ErrValue {
			t.Errorf("Number(%q) = %d, %v, want 0, ErrValue", s, n, e)
		}
		checkReadNumber(t, s)
	}
}

func TestNumberDigits(t *testing.T) {
	for _, sign := range []string{"", "-", "+", "--"} {
		for _, digit := range []string{"0", "1", "5", "9"} {
			for n := range 40 {
				s := sign + strings.Repeat(digit, n)
				want := 1 <= n && n <= 9 && (sign == "" || sign == "-")
				if _, e := value.Number(s); (e == api.OK) != want {
					t.Errorf("Number(%q) returns %v", s, e)
				}
				checkReadNumber(t, s)
			}
			for _, n := range []int{256 + 1, 1<<16 + 1, 1 << 20} {
				if m, e := value.Number(sign + strings.Repeat(digit, n)); m != 0 || e != api.ErrValue {
					t.Errorf("Number of %d digits = %d, %v", n, m, e)
				}
			}
		}
	}
}

func TestNumberEach(t *testing.T) {
	for n := -20000; n <= 20000; n++ {
		if m, e := value.Number(strconv.Itoa(n)); m != n || e != api.OK {
			t.Errorf("Number(%d) = %d, %v", n, m, e)
		}
	}
	random := rand.New(rand.NewSource(9))
	for range 200000 {
		n := random.Intn(1999999999) - 999999999
		if m, e := value.Number(strconv.Itoa(n)); m != n || e != api.OK {
			t.Errorf("Number(%d) = %d, %v", n, m, e)
		}
	}
}

// TestNumberEachByte puts each byte at each place of a text: instead of what stands there, and between.
func TestNumberEachByte(t *testing.T) {
	for _, text := range []string{"", "5", "-5", "12345678", "-12345678", "123456789", "-123456789"} {
		for i := range len(text) + 1 {
			for c := range 256 {
				s := string([]byte{byte(c)})
				checkReadNumber(t, text[:i]+s+text[i:])
				if i < len(text) {
					checkReadNumber(t, text[:i]+s+text[i+1:])
				}
			}
		}
	}
}
