package recur_test

import (
	"fmt"
	"math/rand"
	"regexp"
	"slices"
	"strconv"
	"strings"
	"testing"
	"time"

	"tryst/api"
	"tryst/recur"
)

// A second way to read a rule: by forms, with the second way to say which rules are valid.

// raised puts the letters of ASCII in upper case, byte by byte.
var raised = func() *strings.Replacer {
	var pairs []string
	for c := 'a'; c <= 'z'; c++ {
		pairs = append(pairs, string(c), string(c-32))
	}
	return strings.NewReplacer(pairs...)
}()

var partForm = regexp.MustCompile(`(?s)\A(FREQ|INTERVAL|COUNT|UNTIL|BYSECOND|BYMINUTE|BYHOUR|BYDAY|BYMONTHDAY|BYYEARDAY|BYWEEKNO|BYMONTH|BYSETPOS|WKST)=(.*)\z`)

var (
	numberForm  = regexp.MustCompile(`\A[0-9]{1,4}\z`)
	numbersForm = regexp.MustCompile(`\A[+-]?[0-9]{1,4}(?:,[+-]?[0-9]{1,4})*\z`)
	daysForm    = regexp.MustCompile(`\A(?:[+-]?[0-9]{1,4})?(?:SU|MO|TU|WE|TH|FR|SA)(?:,(?:[+-]?[0-9]{1,4})?(?:SU|MO|TU|WE|TH|FR|SA))*\z`)
	dayForm     = regexp.MustCompile(`([+-]?[0-9]*)(SU|MO|TU|WE|TH|FR|SA)`)
	untilForm   = regexp.MustCompile(`\A[0-9]{8}(?:T[0-9]{6}Z?)?\z`)
)

// readRule returns the rule that is read from s.
func readRule(s string) (api.Rule, api.Errno) {
	texts := map[string]string{}
	for _, part := range strings.Split(raised.Replace(s), ";") {
		groups := partForm.FindStringSubmatch(part)
		if groups == nil {
			return api.Rule{}, api.ErrSyntax
		}
		if _, twice := texts[groups[1]]; twice {
			return api.Rule{}, api.ErrSyntax
		}
		texts[groups[1]] = groups[2]
	}
	if _, ok := texts["FREQ"]; !ok {
		return api.Rule{}, api.ErrSyntax
	}
	r := api.Rule{Interval: 1, Start: 1}
	for name, text := range texts {
		if !readPart(&r, name, text) {
			return api.Rule{}, api.ErrValue
		}
	}
	if !valid(r) {
		return api.Rule{}, api.ErrRule
	}
	return r, api.OK
}

func readPart(r *api.Rule, name, text string) bool {
	switch name {
	case "FREQ":
		r.Freq = 1 + slices.Index([]string{"DAILY", "WEEKLY", "MONTHLY", "YEARLY"}, text)
		return r.Freq > 0
	case "WKST":
		r.Start = slices.Index([]string{"SU", "MO", "TU", "WE", "TH", "FR", "SA"}, text)
		return r.Start >= 0
	case "INTERVAL":
		r.Interval, _ = strconv.Atoi(text)
		return numberForm.MatchString(text) && 1 <= r.Interval && r.Interval <= 1000
	case "COUNT":
		r.Count, _ = strconv.Atoi(text)
		return numberForm.MatchString(text) && 1 <= r.Count && r.Count <= 1000
	case "UNTIL":
		return readUntil(r, text)
	case "BYDAY":
		return readDays(r, text)
	}
	c := columns[slices.IndexFunc(columns, func(c column) bool { return c.name == name })]
	return numbersForm.MatchString(text) && readNumbers(c, r, text)
}

func readNumbers(c column, r *api.Rule, text string) bool {
	var list []int
	for _, word := range strings.Split(text, ",") {
		n, err := strconv.Atoi(word)
		if err != nil || !c.may(n) {
			return false
		}
		list = append(list, n)
	}
	slices.Sort(list)
	*c.of(r) = slices.Compact(list)
	return true
}

func readDays(r *api.Rule, text string) bool {
	if !daysForm.MatchString(text) {
		return false
	}
	var codes []int
	for _, groups := range dayForm.FindAllStringSubmatch(text, -1) {
		nth, _ := strconv.Atoi(groups[1])
		if groups[1] != "" && (nth == 0 || nth < -53 || nth > 53) {
			return false
		}
		codes = append(codes, 53+nth+107*slices.Index([]string{"SU", "MO", "TU", "WE", "TH", "FR", "SA"}, groups[2]))
	}
	slices.Sort(codes)
	for _, code := range slices.Compact(codes) {
		r.Day = append(r.Day, day(code%107-53, code/107))
	}
	return true
}

func readUntil(r *api.Rule, text string) bool {
	kinds := map[int]int{8: 0, 15: 1, 16: 2}
	end, err := time.Parse("20060102T150405", strings.TrimSuffix((text + "T000000")[:min(15, len(text)+7)], "Z"))
	if !untilForm.MatchString(text) || err != nil || end.Year() == 0 {
		return false
	}
	r.Has = true
	r.Until = api.Time{Kind: kinds[len(text)], At: end.Unix() + 62135596800 + secondsOfDay}
	return true
}

// checkSecond holds Parse against the second way, and checks that what is read is written and read unchanged.
func checkSecond(t *testing.T, s string) {
	t.Helper()
	want, wantE := readRule(s)
	r, e := recur.Parse(s)
	if !same(r, want) || e != wantE {
		t.Errorf("Parse(%.300q) = %+v, %v, want %+v, %v", s, r, e, want, wantE)
	}
	if e == api.OK {
		checkPrint(t, r, wantText(r))
	}
}

func checkRead(t *testing.T, s string, want api.Rule) {
	t.Helper()
	if r, e := recur.Parse(s); !same(r, want) || e != api.OK {
		t.Errorf("Parse(%.300q) = %+v, %v, want %+v, OK", s, r, e, want)
	}
	checkSecond(t, s)
}

// checkError checks that s is not read, and that no part of a rule is returned.
func checkError(t *testing.T, s string, want api.Errno) {
	t.Helper()
	if r, e := recur.Parse(s); !same(r, api.Rule{}) || e != want {
		t.Errorf("Parse(%.300q) = %+v, %v, want no rule, %v", s, r, e, want)
	}
	checkSecond(t, s)
}

// P13.1: Parse, the parts

func TestParseOrdinary(t *testing.T) {
	for _, c := range written {
		checkRead(t, c.text, c.rule)
		checkRead(t, strings.ToLower(c.text), c.rule)
		parts := strings.Split(c.text, ";")
		slices.Reverse(parts)
		checkRead(t, strings.Join(parts, ";"), c.rule)
	}
	checkRead(t, "FREQ=DAILY;INTERVAL=1", plain(recur.Daily))
	checkRead(t, "FREQ=DAILY;WKST=MO", plain(recur.Daily))
	checkRead(t, "WKST=MO;INTERVAL=1;FREQ=DAILY", plain(recur.Daily))
	checkRead(t, "FREQ=MONTHLY;BYDAY=-1FR", onDays(recur.Monthly, day(-1, 5)))
}

func TestParseSyntax(t *testing.T) {
	for _, s := range []string{
		// Parts without =, with an empty name, with a name that is none.
		"", "FREQ", "DAILY", "FREQ:DAILY", "FREQ DAILY", "=", "==", "=DAILY", "=FREQ", "FREQ=DAILY;COUNT", "COUNT;FREQ=DAILY", "FREQ=DAILY;=", "FREQ=DAILY;=1", "=1;FREQ=DAILY", "FREQ=DAILY;=COUNT=1",
		"FREQ=DAILY;X=1", "X=1;FREQ=DAILY", "FREQ=DAILY;X=", "FREQ=DAILY;X-COUNT=1", "FREQ=DAILY;BYEASTER=1", "FREQ=DAILY;RSCALE=GREGORIAN", "FREQ=DAILY;SKIP=OMIT", "FREQ=DAILY;BY=1", "FREQ=DAILY;BYMONTHS=1", "FREQ=DAILY;BYMONT=1", "FREQ=DAILY;MONTH=1",
		"FREQ=DAILY;FRE=1", "FREQ=DAILY;FREQS=1", "FREQ=DAILY;1=1", "FREQ=DAILY;WKS=MO", "FREQ=DAILY;START=MO", "FREQ=DAILY;NTH=1", "FREQ=DAILY;DAY=MO", "FREQ=DAILY;POSITION=1", "FREQ=DAILY;BYPOSITION=1", "FREQ=DAILY;BYWEEK=1", "FREQ=DAILY;DAILY=FREQ",
		// Empty parts.
		";", ";;", ";FREQ=DAILY", "FREQ=DAILY;", "FREQ=DAILY;;COUNT=1", ";;FREQ=DAILY", "FREQ=DAILY;;", "FREQ=DAILY; ;COUNT=1", "FREQ=DAILY;COUNT=1;",
		// Spaces and other bytes in names and around parts.
		" FREQ=DAILY", "FREQ =DAILY", "\tFREQ=DAILY", "FREQ=DAILY; COUNT=1", "FREQ=DAILY;COUNT =1", "FREQ=DAILY;\r\n COUNT=1", "FREQ=DAILY;\x00COUNT=1", "FREQ=DAILY;COUNT\x00=1", "\nFREQ=DAILY", "RRULE:FREQ=DAILY", "\ufeffFREQ=DAILY",
		"FREQ=DAILY,COUNT=1;X", "FR\xc0\x80EQ=DAILY", "\xffFREQ=DAILY", "FREQ\xff=DAILY", "FREQ=DAILY;\xff=1", "FREQ=DAILY；COUNT=1;", "FREQ＝DAILY", "ＦREQ=DAILY", "FREQ=DAILY;COÜNT=1", "FREQ=DAILY;WKſT=MO", "FREQ=DAILY;w\u212ast=MO", "FREQ=DAILY;BYſETPOS=1", "FREQ=DAILY;ıNTERVAL=1", "FREQ=DAILY;unt\u0131l=20270101",
		// No FREQ.
		"COUNT=1", "INTERVAL=1;COUNT=1", "WKST=MO", "BYMONTH=1;BYDAY=MO", "UNTIL=20270101", "COUNT=DAILY",
	} {
		checkError(t, s, api.ErrSyntax)
	}
}

// valueOf are values that each part may have, in a yearly rule with BYMONTH or BYDAY.
var valueOf = []struct{ name, text string }{
	{"FREQ", "YEARLY"}, {"INTERVAL", "2"}, {"COUNT", "3"}, {"UNTIL", "20270101"}, {"BYSECOND", "4"}, {"BYMINUTE", "5"}, {"BYHOUR", "6"}, {"BYDAY", "MO"}, {"BYMONTHDAY", "7"},
	{"BYYEARDAY", "8"}, {"BYWEEKNO", "9"}, {"BYMONTH", "10"}, {"BYSETPOS", "11"}, {"WKST", "SU"},
}

func TestParseTwice(t *testing.T) {
	for _, c := range valueOf {
		part := c.name + "=" + c.text
		others := ";BYMONTH=1"
		if c.name == "BYMONTH" {
			others = ";BYDAY=MO"
		}
		if c.name != "FREQ" {
			others += ";FREQ=YEARLY"
		}
		checkSecond(t, part+others)
		if _, e := recur.Parse(part + others); e != api.OK {
			t.Errorf("Parse(%q) = %v", part+others, e)
		}
		for _, again := range []string{part, strings.ToLower(part), strings.ToLower(c.name) + "=" + c.text, c.name[:1] + strings.ToLower(c.name[1:]) + "=" + c.text, c.name + "=", c.name + "=?"} {
			checkError(t, part+";"+again+others, api.ErrSyntax)
			checkError(t, again+";"+part+others, api.ErrSyntax)
			checkError(t, part+others+";"+again, api.ErrSyntax)
			checkError(t, again+others+";"+part, api.ErrSyntax)
			checkError(t, part+";"+again+";"+part+others, api.ErrSyntax)
		}
		// Without a value, with a second =, and with what else no part may have.
		for _, text := range []string{
			"", "=", "=" + c.text, c.text + "=", c.text + "=" + c.text, c.text + "=1", " ", " " + c.text, c.text + " ", c.text + "\n", "\x00", c.text + "\x00", "\xff", c.text + "\xff", c.text + ",", "," + c.text, ",", c.text + ",," + c.text,
			"?", "X", "-", "+", "--", c.name, `"` + c.text + `"`, c.text + ":", c.text + "X", "X" + c.text, "é", "１", "ＭＯ", "ſU", c.text + "," + c.text + ",?",
		} {
			checkError(t, c.name+"="+text+others, api.ErrValue)
			if c.name != "FREQ" {
				checkError(t, "FREQ=YEARLY;"+c.name+"="+text, api.ErrValue)
			}
		}
	}
}

// TestParseCase tries each letter of a rule in lower case, by itself and with all those before it.
func TestParseCase(t *testing.T) {
	for _, c := range written {
		for i := range c.text {
			checkRead(t, c.text[:i]+strings.ToLower(c.text[i:i+1])+c.text[i+1:], c.rule)
			checkRead(t, strings.ToLower(c.text[:i])+c.text[i:], c.rule)
		}
	}
	checkRead(t, "freq=Daily;Until=20261115t090507z", until(api.Time{Kind: 2, At: november + 32707}))
	checkRead(t, "fReQ=mOnThLy;bYdAy=-1fR;wKsT=sU", api.Rule{Freq: 3, Interval: 1, Day: []api.Weekday{{Nth: -1, Day: 5}}})
}

// TestParseOrders tries all orders of some parts: FREQ may be at any place.
func TestParseOrders(t *testing.T) {
	parts := []string{"FREQ=YEARLY", "COUNT=5", "BYDAY=-1MO", "byhour=9,8", "WKST=SU", "INTERVAL=3"}
	want := api.Rule{Freq: 4, Interval: 3, Count: 5, Hour: []int{8, 9}, Day: []api.Weekday{{Nth: -1, Day: 1}}}
	var all func(before []string, left []string)
	all = func(before, left []string) {
		if len(left) == 0 {
			checkRead(t, strings.Join(before, ";"), want)
		}
		for i := range left {
			all(append(slices.Clone(before), left[i]), slices.Delete(slices.Clone(left), i, i+1))
		}
	}
	all(nil, parts)
}

// P13.1: Parse, the values

func TestParseFrequencies(t *testing.T) {
	for _, text := range []string{
		"SECONDLY", "MINUTELY", "HOURLY", "DAY", "DAILYS", "DAIL", "AILY", "WEEK", "MONTH", "YEAR", "1", "2", "3", "4", "0", "ANNUALLY", "DAILY,WEEKLY", "DAILYWEEKLY", "+DAILY", "NEVER", "DAILY=", "DAİLY", "MO", "daıly",
	} {
		checkError(t, "FREQ="+text, api.ErrValue)
	}
}

func TestParseStart(t *testing.T) {
	for i, text := range []string{"SU", "MO", "TU", "WE", "TH", "FR", "SA"} {
		r := plain(recur.Weekly)
		r.Start = i
		checkRead(t, "FREQ=WEEKLY;WKST="+text, r)
		checkRead(t, "WKST="+strings.ToLower(text)+";FREQ=WEEKLY", r)
		for _, wrong := range []string{"1" + text, "-1" + text, "+1" + text, "0" + text, "+" + text, text + "1", text + "," + text, text[:1], text[1:], text + text, text + "N"} {
			checkError(t, "FREQ=WEEKLY;WKST="+wrong, api.ErrValue)
		}
	}
	for _, text := range []string{"0", "1", "6", "7", "MONDAY", "XX", "M0", "UM", "OM", "UMO", "OTU"} {
		checkError(t, "FREQ=WEEKLY;WKST="+text, api.ErrValue)
	}
}

// TestParsePairs tries all weekdays of two bytes.
func TestParsePairs(t *testing.T) {
	for a := range 256 {
		for b := range 256 {
			pair := string([]byte{byte(a), byte(b)})
			checkSecond(t, "FREQ=WEEKLY;WKST="+pair)
			checkSecond(t, "FREQ=MONTHLY;BYDAY=2"+pair)
		}
	}
}

// TestParseAmounts tries INTERVAL and COUNT: 1 to 1000, in up to four digits, without a sign.
func TestParseAmounts(t *testing.T) {
	for n := range 10100 {
		interval, count := plain(recur.Daily), plain(recur.Daily)
		interval.Interval, count.Count = n, n
		for width := 1; width <= 6; width++ {
			text := fmt.Sprintf("%0*d", width, n)
			if 1 <= n && n <= 1000 && len(text) <= 4 {
				checkRead(t, "FREQ=DAILY;INTERVAL="+text, interval)
				checkRead(t, "FREQ=DAILY;COUNT="+text, count)
			} else {
				checkError(t, "FREQ=DAILY;INTERVAL="+text, api.ErrValue)
				checkError(t, "FREQ=DAILY;COUNT="+text, api.ErrValue)
			}
		}
	}
	for _, text := range []string{
		"+1", "-1", "+0", "-0", "+-1", "-+1", "--1", "++1", "1+", "1-", "+1000", "-1000", "1.0", "1,2", "1,1", "1e3", "0x1", "1_0", "01_0", "ONE", "1 0", "10000", "99999", "00000", "999999999", "1000000000",
		"4294967297", "18446744073709551617", "9223372036854775808", strings.Repeat("0", 100) + "1", strings.Repeat("9", 1000), "١", "1١",
	} {
		checkError(t, "FREQ=DAILY;INTERVAL="+text, api.ErrValue)
		checkError(t, "FREQ=DAILY;COUNT="+text, api.ErrValue)
	}
}

// TestParseNumbers tries all numbers of up to five digits in each list, with each sign and leading zeros.
func TestParseNumbers(t *testing.T) {
	for _, c := range columns {
		rest := "FREQ=YEARLY;BYMONTH=2;" + c.name + "="
		if c.name == "BYMONTH" {
			rest = "FREQ=YEARLY;BYMONTH="
		}
		for n := range 10020 {
			if n > 500 && n < 9900 && n%100 > 3 {
				continue
			}
			for width := 1; width <= 6; width++ {
				for _, sign := range []string{"", "+", "-"} {
					text, number := sign+fmt.Sprintf("%0*d", width, n), n
					if sign == "-" {
						number = -n
					}
					if len(text) > len(sign)+4 || !c.may(number) {
						checkError(t, rest+text, api.ErrValue)
						continue
					}
					want := plain(recur.Yearly)
					want.Month = []int{2}
					*c.of(&want) = []int{number}
					checkRead(t, rest+text, want)
				}
			}
		}
		for _, text := range []string{
			"+-1", "-+1", "--1", "++1", "1+", "1-", "1-2", "1+2", "+", "-", "+ 1", "- 1", " 1", "1 ", "1, 2", "1 ,2", "1;", ",", "1,", ",1", "1,,2", ",,", "1,+", "1,-", "1.0", "1e0", "0x1", "1_0", "ONE", "MO", "1MO", "1;2",
			"00001", "+00001", "-00001", "000000000", "99999", "999999999", "1000000000", "4294967297", "18446744073709551617", strings.Repeat("0", 100) + "1", "１", "1，2", "1\x002", "−1", "1\n", "1,2\r",
		} {
			if strings.Contains(text, ";") {
				checkError(t, rest+text, api.ErrSyntax)
			} else {
				checkError(t, rest+text, api.ErrValue)
			}
		}
	}
}

// TestParseRepeated tries lists with their numbers in any order, and repeated.
func TestParseRepeated(t *testing.T) {
	for _, c := range columns {
		possible := c.possible()
		a, b, z := possible[0], possible[1], possible[len(possible)-1]
		beside := ""
		if c.name == "BYSETPOS" {
			beside = ";BYMONTH=2"
		}
		for _, list := range [][]int{{a}, {a, a}, {a, b}, {b, a}, {a, b, a}, {b, a, b}, {a, b, z}, {z, b, a}, {z, a, b}, {b, z, a}, {z, z, z}, {z, a, z, a, b, b, z, a}} {
			texts := []string{"", "", ""}
			for _, n := range list {
				texts[0] += fmt.Sprintf(",%d", n)
				texts[1] += fmt.Sprintf(",%+d", n)
				texts[2] += fmt.Sprintf(",%+0*d", 4, n)
			}
			sorted := slices.Compact(slices.Sorted(slices.Values(list)))
			for _, text := range texts {
				checkRead(t, "FREQ=YEARLY;"+c.name+"="+text[1:]+beside, c.in(sorted...))
			}
			checkError(t, "FREQ=YEARLY;"+c.name+"="+texts[0][1:]+","+strconv.Itoa(c.last+1)+beside, api.ErrValue)
			checkError(t, "FREQ=YEARLY;"+c.name+"="+strconv.Itoa(c.first-1)+texts[0]+beside, api.ErrValue)
		}
	}
	checkRead(t, "FREQ=DAILY;BYHOUR=-0,+0,0,00", api.Rule{Freq: 1, Interval: 1, Start: 1, Hour: []int{0}})
	checkRead(t, "FREQ=DAILY;BYMONTH=3,01,3", api.Rule{Freq: 1, Interval: 1, Start: 1, Month: []int{1, 3}})
	checkError(t, "FREQ=DAILY;BYMONTHDAY=-0", api.ErrValue)
	checkError(t, "FREQ=DAILY;BYMONTHDAY=+0", api.ErrValue)
	checkError(t, "FREQ=DAILY;BYMONTHDAY=-1,0,1", api.ErrValue)
}

// TestParseManyNumbers tries more than MaxRule numbers: those that are repeated do not count.
func TestParseManyNumbers(t *testing.T) {
	for _, c := range columns {
		possible := c.possible()
		beside := ""
		if c.name == "BYSETPOS" {
			beside = ";BYMONTH=2"
		}
		for n := 1; n <= min(len(possible), 100); n++ {
			var texts []string
			for i := range n {
				texts = append(texts, strconv.Itoa(possible[len(possible)-1-i]))
			}
			text := strings.Join(texts, ",")
			want := c.in(possible[len(possible)-n:]...)
			for _, text := range []string{text, text + "," + text, text + strings.Repeat(","+texts[0], 100)} {
				if n <= 40 {
					checkRead(t, "FREQ=YEARLY;"+c.name+"="+text+beside, want)
				} else {
					checkError(t, "FREQ=YEARLY;"+c.name+"="+text+beside, api.ErrRule)
				}
				// A wrong number behind them all.
				checkError(t, "FREQ=YEARLY;"+c.name+"="+text+","+beside, api.ErrValue)
				checkError(t, "FREQ=YEARLY;"+c.name+"="+text+",999"+beside, api.ErrValue)
			}
		}
	}
}

func TestParseManyWeekdays(t *testing.T) {
	var texts []string
	var days []api.Weekday
	for nth := -50; nth < 0; nth++ {
		days = append(days, day(nth, 4))
		texts = append(texts, fmt.Sprintf("%dTH", nth))
		text := strings.Join(texts, ",")
		for _, text := range []string{text, text + "," + text, texts[len(texts)-1] + "," + text + strings.Repeat(","+texts[0], 50)} {
			if len(days) <= 40 {
				checkRead(t, "FREQ=MONTHLY;BYDAY="+text, onDays(recur.Monthly, days...))
			} else {
				checkError(t, "FREQ=MONTHLY;BYDAY="+text, api.ErrRule)
			}
			checkError(t, "FREQ=MONTHLY;BYDAY="+text+",XX", api.ErrValue)
		}
	}
	checkRead(t, "FREQ=DAILY;BYDAY=MO"+strings.Repeat(",MO", 1000), onDays(recur.Daily, day(0, 1)))
}

func TestParseWeekdays(t *testing.T) {
	for weekday, name := range []string{"SU", "MO", "TU", "WE", "TH", "FR", "SA"} {
		for _, freq := range []string{"DAILY", "WEEKLY", "MONTHLY", "YEARLY"} {
			checkRead(t, "FREQ="+freq+";BYDAY="+name, onDays(1+slices.Index([]string{"DAILY", "WEEKLY", "MONTHLY", "YEARLY"}, freq), day(0, weekday)))
		}
		for n := range 1100 {
			for width := 1; width <= 5; width++ {
				for _, sign := range []string{"", "+", "-"} {
					text, nth := sign+fmt.Sprintf("%0*d", width, n), n
					if sign == "-" {
						nth = -n
					}
					if n == 0 || n > 53 || len(text) > len(sign)+4 {
						checkError(t, "FREQ=MONTHLY;BYDAY="+text+name, api.ErrValue)
						continue
					}
					checkRead(t, "FREQ=MONTHLY;BYDAY="+text+name, onDays(recur.Monthly, day(nth, weekday)))
					checkError(t, "FREQ=WEEKLY;BYDAY="+text+name, api.ErrRule)
				}
			}
		}
		for _, text := range []string{
			"+" + name, "-" + name, "+-1" + name, "--1" + name, "++1" + name, "1+" + name, " " + name, name + " ", "1 " + name, "1" + name + "1", name + "1", name[:1], name[1:], "1", "+1", "1" + name[:1], "1" + name[1:], name + name, "1" + name + "2" + name,
			name + ",", "," + name, name + ",," + name, name + ";", "X" + name, name + "X", "1X" + name, "00001" + name, "4294967297" + name, "18446744073709551617" + name, "1,2" + name, name + ",1", "１" + name, "1.0" + name, "0x1" + name, "−1" + name, "1\x00" + name, name + "\x00",
		} {
			want := api.ErrValue
			if strings.Contains(text, ";") {
				want = api.ErrSyntax
			}
			checkError(t, "FREQ=MONTHLY;BYDAY="+text, want)
		}
	}
}

func TestParseWeekdaysOrder(t *testing.T) {
	want := onDays(recur.Yearly, day(-2, 0), day(0, 1), day(1, 1), day(-1, 6))
	for _, text := range []string{"-2SU,MO,1MO,-1SA", "-1SA,1MO,MO,-2SU", "MO,-1SA,-2SU,1MO", "+1mo,-2SU,MO,-01sa", "MO,01MO,MO,1MO,+1MO,-2SU,-1SA,-2SU,-0002SU"} {
		checkRead(t, "FREQ=YEARLY;BYDAY="+text, want)
	}
	checkError(t, "FREQ=YEARLY;BYDAY=-2SU,MO,1MO,-1SA,0SA", api.ErrValue)
	checkError(t, "FREQ=YEARLY;BYDAY=54SU,MO,1MO,-1SA", api.ErrValue)
}

func TestParseUntil(t *testing.T) {
	for _, c := range []struct {
		text string
		time api.Time
	}{
		{"20261115", api.Time{Kind: 0, At: november}}, {"20261115T000000", api.Time{Kind: 1, At: november}}, {"20261115T000000Z", api.Time{Kind: 2, At: november}},
		{"20261115T090507", api.Time{Kind: 1, At: november + 32707}}, {"20261115T090507Z", api.Time{Kind: 2, At: november + 32707}}, {"20261115t090507z", api.Time{Kind: 2, At: november + 32707}},
		{"00010101", api.Time{Kind: 0, At: secondsOfDay}}, {"00010101T000000Z", api.Time{Kind: 2, At: secondsOfDay}}, {"99991231", api.Time{Kind: 0, At: lastSecond + 1 - secondsOfDay}},
		{"99991231T235959", api.Time{Kind: 1, At: lastSecond}}, {"99991231T235959Z", api.Time{Kind: 2, At: lastSecond}}, {"20240229", api.Time{Kind: 0, At: november - 990*secondsOfDay}},
	} {
		checkRead(t, "FREQ=DAILY;UNTIL="+c.text, until(c.time))
		checkRead(t, "UNTIL="+c.text+";FREQ=DAILY", until(c.time))
	}
	for _, text := range []string{
		// Eight bytes that are no date.
		"20260229", "20261301", "20260001", "20261100", "20261131", "00000101", "00000000", "99999999", "2026111Z", "2026111T", "T2026111", "2026-1-1", "-0261115", "+0261115", "2026111 ", " 2026111", "T090507Z", "é202611", "\xff2026111", "TOMORROW",
		"2027", "2026111", "202611155", "20261115Z", "20261115T", "20261115T09", "20261115T0905", "20261115T09050", "20261115T0905070", "20261115T090507ZZ", "20261115T090507X", "20261115T090507+0100", "20261115TZ", "20261115T0905Z",
		"20261115T240000", "20261115T096000", "20261115T090560", "20261115T240000Z", "20261115T235960Z", "20260229T000000", "20260229T000000Z", "00000101T000000Z", "2026-11-15", "2026-11-15T09:05:07", "20261115 090507", "20261115X090507",
		"20261115,20261116", "20261115T090507Z,20261115", "TZID=Oslo:20261115T090507", "VALUE=DATE:20261115", "0", "1", "P1D", "NEVER", "２０２６1115",
	} {
		checkError(t, "FREQ=DAILY;UNTIL="+text, api.ErrValue)
	}
}

// TestParseUntilDigits tries each two digits at each place of a time.
func TestParseUntilDigits(t *testing.T) {
	for _, text := range []string{"20240229", "20261231T235959", "20261231T235959Z"} {
		for at := range len(text) - 1 {
			for n := range 100 {
				checkSecond(t, "FREQ=DAILY;UNTIL="+text[:at]+fmt.Sprintf("%02d", n)+text[at+2:])
			}
		}
	}
}

// P13.1: Parse, rules that are not valid, and the order of errors

func TestParseRule(t *testing.T) {
	for _, s := range []string{
		"FREQ=DAILY;COUNT=1;UNTIL=20270101", "FREQ=YEARLY;UNTIL=20270101T000000Z;COUNT=1000", "UNTIL=20270101T000000;COUNT=1;FREQ=WEEKLY",
		"FREQ=DAILY;BYDAY=1MO", "FREQ=DAILY;BYDAY=-1MO", "FREQ=WEEKLY;BYDAY=1MO", "FREQ=WEEKLY;BYDAY=MO,TU,53WE", "FREQ=YEARLY;BYDAY=1MO;BYWEEKNO=1", "FREQ=YEARLY;BYWEEKNO=-1;BYDAY=MO,-1TU", "BYWEEKNO=1;BYDAY=1MO;FREQ=YEARLY",
		"FREQ=DAILY;BYWEEKNO=1", "FREQ=WEEKLY;BYWEEKNO=1", "FREQ=MONTHLY;BYWEEKNO=1", "FREQ=DAILY;BYYEARDAY=1", "FREQ=WEEKLY;BYYEARDAY=1", "FREQ=MONTHLY;BYYEARDAY=1", "BYYEARDAY=1;FREQ=MONTHLY", "FREQ=MONTHLY;BYDAY=1MO;BYWEEKNO=1",
		"FREQ=WEEKLY;BYMONTHDAY=1", "FREQ=WEEKLY;BYMONTHDAY=-1;BYMONTH=1", "BYMONTHDAY=1;FREQ=WEEKLY",
		"FREQ=DAILY;BYSETPOS=1", "FREQ=WEEKLY;BYSETPOS=-1", "FREQ=MONTHLY;BYSETPOS=1,-1", "FREQ=YEARLY;BYSETPOS=366", "FREQ=YEARLY;BYSETPOS=1;COUNT=3;INTERVAL=2;WKST=SU", "FREQ=DAILY;BYSETPOS=1;UNTIL=20270101", "BYSETPOS=1;FREQ=DAILY",
	} {
		checkError(t, s, api.ErrRule)
	}
}

// TestParseListsWithFrequencies tries each list and each two lists with each frequency.
func TestParseListsWithFrequencies(t *testing.T) {
	for _, freq := range []string{"DAILY", "WEEKLY", "MONTHLY", "YEARLY"} {
		for _, a := range append(valueOf[4:len(valueOf)-1], struct{ name, text string }{"BYDAY", "-1MO"}) {
			checkSecond(t, "FREQ="+freq+";"+a.name+"="+a.text)
			for _, b := range append(valueOf[4:len(valueOf)-1], struct{ name, text string }{"BYDAY", "-1MO"}) {
				checkSecond(t, a.name+"="+a.text+";"+"FREQ="+freq+";"+b.name+"="+b.text)
			}
		}
	}
}

func TestParseErrorOrder(t *testing.T) {
	for s, want := range map[string]api.Errno{
		// The syntax of all parts comes ahead of all values.
		"FREQ=HOURLY;X=1": api.ErrSyntax, "FREQ=DAILY;COUNT=0;X=1": api.ErrSyntax, "FREQ=DAILY;COUNT=0;X": api.ErrSyntax, "FREQ=DAILY;COUNT=;": api.ErrSyntax, "FREQ=DAILY;COUNT=-1;COUNT=1": api.ErrSyntax, "FREQ=DAILY;BYHOUR=24;BYHOUR=2": api.ErrSyntax,
		"FREQ=X;FREQ=DAILY": api.ErrSyntax, "FREQ=DAILY;FREQ=X": api.ErrSyntax, "COUNT=0": api.ErrSyntax, "BYHOUR=24;BYDAY=XX": api.ErrSyntax, "UNTIL=X;COUNT=X": api.ErrSyntax, "BYMONTH=13;WKST=SU": api.ErrSyntax, "FREQ=;=": api.ErrSyntax,
		"FREQ=DAILY;BYMONTH=;;": api.ErrSyntax, "BYHOUR=99;FREQ=DAILY;BYHOUR": api.ErrSyntax,
		// So does it ahead of rules that are not valid.
		"FREQ=DAILY;BYSETPOS=1;X=1": api.ErrSyntax, "FREQ=WEEKLY;BYMONTHDAY=1;BYMONTHDAY=2": api.ErrSyntax, "FREQ=DAILY;COUNT=1;UNTIL=20270101;": api.ErrSyntax, "COUNT=1;UNTIL=20270101": api.ErrSyntax, "BYSETPOS=1": api.ErrSyntax,
		// All values come ahead of rules that are not valid.
		"FREQ=WEEKLY;BYMONTHDAY=1;COUNT=0": api.ErrValue, "FREQ=DAILY;BYSETPOS=1;WKST=XX": api.ErrValue, "FREQ=DAILY;COUNT=1;UNTIL=2027": api.ErrValue, "FREQ=DAILY;COUNT=1001;UNTIL=20270101": api.ErrValue, "FREQ=MONTHLY;BYWEEKNO=54": api.ErrValue,
		"FREQ=MONTHLY;BYWEEKNO=1;BYHOUR=24": api.ErrValue, "FREQ=DAILY;BYDAY=1MO,XX": api.ErrValue, "FREQ=DAILY;BYDAY=1MO;BYMONTH=0": api.ErrValue, "FREQ=X;BYSETPOS=1": api.ErrValue, "FREQ=WEEKLY;BYSETPOS=0": api.ErrValue, "BYWEEKNO=1;BYSETPOS=X;FREQ=DAILY": api.ErrValue,
		"BYSECOND=" + strings.Join(strings.Fields(strings.Trim(fmt.Sprint(rangeOf(60)), "[]")), ",") + ";FREQ=DAILY;BYHOUR=24": api.ErrValue,
		"BYSECOND=" + strings.Join(strings.Fields(strings.Trim(fmt.Sprint(rangeOf(60)), "[]")), ",") + ",60;FREQ=DAILY":        api.ErrValue,
		"BYSECOND=" + strings.Join(strings.Fields(strings.Trim(fmt.Sprint(rangeOf(60)), "[]")), ",") + ";FREQ=DAILY":           api.ErrRule,
	} {
		checkError(t, s, want)
	}
}

// Any bytes are read or rejected (P5)

// TestParseAllTexts tries all texts of a few words behind some beginnings.
func TestParseAllTexts(t *testing.T) {
	try := func(begin string, words []string, most int) {
		var all func(s string, left int)
		all = func(s string, left int) {
			checkSecond(t, s)
			if left > 0 {
				for _, word := range words {
					all(s+word, left-1)
				}
			}
		}
		all(begin, most)
	}
	try("", []string{"FREQ=DAILY", "FREQ", "COUNT", "=", ";", "1", "X", "bymonth=2"}, 5)
	try("", []string{"FREQ=YEARLY", ";", ";COUNT=2", ";UNTIL=20270101", ";BYSETPOS=-1", ";BYDAY=1MO", ";byday=SU", ";BYWEEKNO=3", ";BYMONTHDAY=0"}, 5)
	for _, begin := range []string{"FREQ=YEARLY;BYMONTHDAY=", "BYSECOND=", "FREQ=DAILY;BYMONTH=", "FREQ=MONTHLY;BYDAY="} {
		try(begin, []string{"1", "0", "+", "-", ",", "31", "60", "MO", ";FREQ=DAILY"}, 4)
	}
	try("FREQ=MONTHLY;BYDAY=", []string{"MO", "su", "1", "0", "+", "-", ",", "53", "M"}, 5)
	try("FREQ=DAILY;INTERVAL=", []string{"1", "0", "+", "-", ",", "00"}, 5)
}

// TestParseEachByte puts each byte at each place of some rules: in the place of the one that is there, and before
// it; and leaves out each byte.
func TestParseEachByte(t *testing.T) {
	for _, s := range []string{
		"FREQ=DAILY", "FREQ=WEEKLY;INTERVAL=2;BYDAY=SU,MO;WKST=SU", "FREQ=MONTHLY;COUNT=3;BYDAY=-1FR,+02sa", "FREQ=YEARLY;UNTIL=20271231T000000Z;BYHOUR=9;BYMONTHDAY=-1,15", "freq=yearly;byyearday=-366,1;byminute=5;bysecond=59;bysetpos=-1",
		"BYWEEKNO=-53,20;FREQ=YEARLY;BYMONTH=1,12;UNTIL=20270101",
	} {
		for at := range len(s) + 1 {
			for c := range 256 {
				checkSecond(t, s[:at]+string([]byte{byte(c)})+s[at:])
				if at < len(s) {
					checkSecond(t, s[:at]+string([]byte{byte(c)})+s[at+1:])
				}
			}
			checkSecond(t, s[:at])
			checkSecond(t, s[at:])
			if at < len(s) {
				checkSecond(t, s[:at]+s[at+1:])
			}
		}
	}
}

// TestParseMixed reads rules that are written in another order, in other cases, with numbers repeated and with
// leading zeros and signs.
func TestParseMixed(t *testing.T) {
	random := rand.New(rand.NewSource(14))
	for range 30000 {
		r := anyRule(random)
		parts := strings.Split(wantText(r), ";")
		for i, part := range parts {
			parts[i] = mixed(random, part)
		}
		random.Shuffle(len(parts), func(i, j int) { parts[i], parts[j] = parts[j], parts[i] })
		if s := strings.Join(parts, ";"); valid(r) {
			checkRead(t, s, r)
		} else {
			checkError(t, s, api.ErrRule)
		}
	}
}

// mixed writes a part in another way.
func mixed(random *rand.Rand, part string) string {
	name, text, _ := strings.Cut(part, "=")
	if strings.HasPrefix(name, "BY") {
		words := strings.Split(text, ",")
		for range random.Intn(3) {
			words = append(words, words[random.Intn(len(words))])
		}
		for i, word := range words {
			digits := strings.TrimPrefix(word, "-")
			if first := digits[0]; '0' <= first && first <= '9' && len(strings.TrimRight(digits, "SUMOTWEHFRA")) < 4 && random.Intn(2) == 0 {
				sign := strings.TrimSuffix(word, digits)
				if sign == "" && random.Intn(2) == 0 {
					sign = "+"
				}
				words[i] = sign + "0" + digits
			}
		}
		random.Shuffle(len(words), func(i, j int) { words[i], words[j] = words[j], words[i] })
		text = strings.Join(words, ",")
	}
	s := []byte(name + "=" + text)
	for i := range s {
		if 'A' <= s[i] && s[i] <= 'Z' && random.Intn(2) == 0 {
			s[i] += 'a' - 'A'
		}
	}
	return string(s)
}

// TestParseLong reads texts that are far longer than any that is written.
func TestParseLong(t *testing.T) {
	const n = 300000
	checkRead(t, "FREQ=DAILY;BYMONTH=1"+strings.Repeat(",12,1", n), api.Rule{Freq: 1, Interval: 1, Start: 1, Month: []int{1, 12}})
	checkError(t, "FREQ=DAILY"+strings.Repeat(";", n), api.ErrSyntax)
	checkError(t, strings.Repeat("=", n), api.ErrSyntax)
	checkError(t, "FREQ="+strings.Repeat("DAILY", n), api.ErrValue)
	checkError(t, "FREQ=DAILY;BYMONTH="+strings.Repeat(",", n), api.ErrValue)
	checkError(t, "FREQ=DAILY;BYMONTH="+strings.Repeat("1", n), api.ErrValue)
	checkError(t, strings.Repeat("\x00", n), api.ErrSyntax)
}

// P13.1, R3: what Parse returns is new memory

func TestParseMemory(t *testing.T) {
	const s = "FREQ=YEARLY;BYSECOND=3,1,2;BYMINUTE=3,1,2;BYHOUR=3,1,2;BYDAY=TU,SU,MO;BYMONTHDAY=3,1,2;BYYEARDAY=3,1,2;BYWEEKNO=3,1,2;BYMONTH=3,1,2;BYSETPOS=3,1,2"
	first, _ := recur.Parse(s)
	second, _ := recur.Parse(s)
	want := fmt.Sprintf("%+v", second)
	for i, c := range columns {
		list := *c.of(&first)
		list = list[:cap(list)]
		for j := range list {
			list[j] = 70 + i
		}
		for j, other := range columns {
			wanted := []int{1, 2, 3}
			if j <= i {
				wanted = []int{70 + j, 70 + j, 70 + j}
			}
			if got := *other.of(&first); !slices.Equal(got, wanted) {
				t.Errorf("when %s is written to, %s is %v, want %v", c.name, other.name, got, wanted)
			}
		}
	}
	clear(first.Day[:cap(first.Day)])
	if fmt.Sprintf("%+v", second) != want {
		t.Errorf("Parse(%q) shares memory with another call of it: %+v", s, second)
	}
	checkRead(t, s, second)
}
