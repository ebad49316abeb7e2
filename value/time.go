package value

import (
	"strings"

	"tryst/api"
	"tryst/clock"
)

// The Kinds of a time.
const (
	dateKind = iota
	localKind
	utcKind
	zoneKind
)

// RightTime reports whether t is valid.
func RightTime(t api.Time) bool {
	if !clock.Right(t.At) {
		return false
	}
	switch t.Kind {
	case dateKind:
		return t.Zone == "" && clock.Second(t.At) == 0
	case localKind, utcKind:
		return t.Zone == ""
	case zoneKind:
		return zoneName(t.Zone)
	}
	return false
}

// Time returns the text of t.
func Time(t api.Time) (string, api.Errno) {
	if !RightTime(t) {
		return "", api.ErrValue
	}
	if t.Kind == dateKind {
		return clock.FormatDate(clock.Day(t.At))
	}
	text, e := clock.Format(t.At)
	if t.Kind == utcKind {
		text += "Z"
	}
	return text, e
}

// ParseTime returns the time that is read from s: a date, or one of the zone if there is any.
func ParseTime(s, zone string, date bool) (api.Time, api.Errno) {
	if zone != "" && (date || !zoneName(zone)) {
		return api.Time{}, api.ErrValue
	}
	if date {
		return parseDate(s)
	}
	kind, text := localKind, s
	if zone != "" {
		kind = zoneKind
	} else if before, ok := strings.CutSuffix(s, "Z"); ok {
		kind, text = utcKind, before
	}
	at, e := clock.Parse(text)
	if e != api.OK {
		return api.Time{}, e
	}
	return api.Time{Kind: kind, At: at, Zone: strings.Clone(zone)}, api.OK
}

// parseDate returns the date that is read from s, as the beginning of its day.
func parseDate(s string) (api.Time, api.Errno) {
	day, e := clock.ParseDate(s)
	if e != api.OK {
		return api.Time{}, e
	}
	at, e := clock.At(day, 0)
	return api.Time{Kind: dateKind, At: at}, e
}

// zoneName reports whether s is a zone name.
func zoneName(s string) bool {
	if s == "" || len(s) > api.MaxName {
		return false
	}
	for i := range len(s) {
		if !inZoneName(s[i]) {
			return false
		}
	}
	return true
}

// inZoneName reports whether a zone name may contain c.
func inZoneName(c byte) bool {
	return 'A' <= c && c <= 'Z' || 'a' <= c && c <= 'z' || isDigit(c) || strings.IndexByte("/_-+", c) >= 0
}
