package value

import (
	"strconv"
	"strings"

	"tryst/api"
)

// maxDuration is the longest duration, and the longest one back.
const maxDuration = 10_000_000_000

// Duration returns the text of the duration n.
func Duration(n int64) (string, api.Errno) {
	if n < -maxDuration || n > maxDuration {
		return "", api.ErrValue
	}
	if n < 0 {
		return "-P" + period(-n), api.OK
	}
	return "P" + period(n), api.OK
}

// period writes a duration that is not negative, without its sign and P.
func period(n int64) string {
	if n == 0 {
		return "0D"
	}
	if n%secondsOfWeek == 0 {
		return part(n/secondsOfWeek, "W")
	}
	text := ""
	if n >= secondsOfDay {
		text = part(n/secondsOfDay, "D")
	}
	if rest := n % secondsOfDay; rest > 0 {
		text += "T" + hours(rest)
	}
	return text
}

// hours writes seconds of a day, other than 0, as hours, minutes and seconds, without the leading and
// trailing ones that are 0.
func hours(n int64) string {
	text := ""
	if n >= secondsOfHour {
		text += part(n/secondsOfHour, "H")
	}
	// Minutes that are 0 are only written between hours and seconds.
	if minutes := n % secondsOfHour / secondsOfMinute; minutes > 0 || n >= secondsOfHour && n%secondsOfMinute > 0 {
		text += part(minutes, "M")
	}
	if seconds := n % secondsOfMinute; seconds > 0 {
		text += part(seconds, "S")
	}
	return text
}

// part writes one part of a duration.
func part(n int64, unit string) string {
	return strconv.FormatInt(n, 10) + unit
}

// ParseDuration returns the duration that is read from s.
func ParseDuration(s string) (int64, api.Errno) {
	unsigned, negative := strings.CutPrefix(s, "-")
	if !negative {
		unsigned = strings.TrimPrefix(s, "+")
	}
	text, ok := strings.CutPrefix(unsigned, "P")
	if !ok {
		return 0, api.ErrValue
	}
	n, ok := parsePeriod(text)
	if !ok || n > maxDuration {
		return 0, api.ErrValue
	}
	return signed(n, negative), api.OK
}

// parsePeriod reads what follows the sign and P of a duration, and reports whether it has that form.
func parsePeriod(s string) (int64, bool) {
	if text, ok := strings.CutPrefix(s, "T"); ok {
		return parseHours(text)
	}
	n, unit, rest := cutPart(s)
	switch unit {
	case 'W':
		return n * secondsOfWeek, rest == ""
	case 'D':
		if rest == "" {
			return n * secondsOfDay, true
		}
		text, timed := strings.CutPrefix(rest, "T")
		seconds, ok := parseHours(text)
		return n*secondsOfDay + seconds, timed && ok
	}
	return 0, false
}

// parseHours reads the hours, minutes and seconds of a duration, and reports whether s has that form.
// Any of them may be the first one and any the last one, but each is followed by the next one alone.
func parseHours(s string) (int64, bool) {
	var sum int64
	n, unit, rest := cutPart(s)
	switch unit {
	case 'H':
		sum = n * secondsOfHour
		if rest == "" {
			return sum, true
		}
		if n, unit, rest = cutPart(rest); unit != 'M' {
			return 0, false
		}
		fallthrough
	case 'M':
		sum += n * secondsOfMinute
		if rest == "" {
			return sum, true
		}
		if n, unit, rest = cutPart(rest); unit != 'S' {
			return 0, false
		}
		fallthrough
	case 'S':
		return sum + n, rest == ""
	}
	return 0, false
}

// cutPart returns the number and the unit with which s begins, and what follows them. The unit is 0, which
// is none, if s does not begin like that.
func cutPart(s string) (int64, byte, string) {
	end := 0
	for end < len(s) && isDigit(s[end]) {
		end++
	}
	n, ok := decimal(s[:end], digitsOfPart)
	if !ok || end == len(s) {
		return 0, 0, ""
	}
	return n, s[end], s[end+1:]
}
