package recur

import (
	"cmp"
	"slices"
	"strings"

	"tryst/api"
	"tryst/value"
)

const (
	// maxDigits is the most digits of a number.
	maxDigits = 4
	// dateLength tells an UNTIL that is a date from one that is a time.
	dateLength = len("yyyymmdd")
	// weekdayLength is the length of the name of a weekday.
	weekdayLength = len("MO")
)

// A part of a rule, as it is written.
type part struct{ name, text string }

// Parse returns the rule that is read from s.
func Parse(s string) (api.Rule, api.Errno) {
	parts, ok := cutParts(upper(s))
	if !ok {
		return api.Rule{}, api.ErrSyntax
	}
	r := api.Rule{Interval: 1, Start: monday}
	for _, p := range parts {
		if !p.read(&r) {
			return api.Rule{}, api.ErrValue
		}
	}
	if !Formed(r) {
		return api.Rule{}, api.ErrRule
	}
	return r, api.OK
}

// upper returns s with its letters of ASCII in upper case. Other letters stay as they are, since the upper
// case of some of them is a letter of ASCII.
func upper(s string) string {
	text := []byte(s)
	for i, c := range text {
		if 'a' <= c && c <= 'z' {
			text[i] = c - 'a' + 'A'
		}
	}
	return string(text)
}

// cutParts returns the parts of s, and reports whether it consists of parts with known names, none of them
// twice, and one of them FREQ.
func cutParts(s string) ([]part, bool) {
	var parts []part
	for text := range strings.SplitSeq(s, ";") {
		name, rest, ok := strings.Cut(text, "=")
		if !ok || !known(name) || has(parts, name) {
			return nil, false
		}
		parts = append(parts, part{name: name, text: rest})
	}
	return parts, has(parts, "FREQ")
}

// known reports whether there are parts with that name.
func known(name string) bool {
	for _, other := range partNames {
		if other == name {
			return true
		}
	}
	return false
}

// has reports whether one of the parts has that name.
func has(parts []part, name string) bool {
	return slices.ContainsFunc(parts, func(p part) bool { return p.name == name })
}

// read puts the value of the part into r, and reports whether it is one that the part may have.
func (p part) read(r *api.Rule) bool {
	ok := false
	switch p.name {
	case "FREQ":
		r.Freq, ok = frequency(p.text)
	case "INTERVAL":
		r.Interval, ok = amount(p.text)
	case "COUNT":
		r.Count, ok = amount(p.text)
	case "UNTIL":
		r.Until, ok = until(p.text)
		r.Has = ok
	case "BYDAY":
		r.Day, ok = readList(p.text, nthWeekday, compareWeekdays)
	case "WKST":
		r.Start, ok = weekday(p.text)
	default:
		ok = readNumbers(r, p)
	}
	return ok
}

// readNumbers puts the numbers of the part into that list of r, and reports whether the list may contain
// them.
func readNumbers(r *api.Rule, p part) bool {
	ok := false
	for _, l := range numberLists(r) {
		if l.name == p.name {
			*l.list, ok = readList(p.text, l.number, cmp.Compare[int])
		}
	}
	return ok
}

// readList reads elements in any order, some of them maybe repeated, and returns them ascending, each once,
// and whether all of them were read. Each is put into its place at once, so that a text with many
// repetitions makes no long list.
func readList[T any](s string, read func(string) (T, bool), compare func(a, b T) int) ([]T, bool) {
	var list []T
	for text := range strings.SplitSeq(s, ",") {
		x, ok := read(text)
		if !ok {
			return nil, false
		}
		if at, found := slices.BinarySearchFunc(list, x, compare); !found {
			list = slices.Insert(list, at, x)
		}
	}
	return list, true
}

// number returns the number that is read from s, and whether the list may contain it.
func (l numbers) number(s string) (int, bool) {
	n, ok := signed(s)
	return n, ok && l.allows(n)
}

// nthWeekday returns the weekday that is read from s with the Nth before it, if there is one, and whether a
// list may contain it.
func nthWeekday(s string) (api.Weekday, bool) {
	at := max(len(s)-weekdayLength, 0)
	day, ok := weekday(s[at:])
	if at == 0 {
		return api.Weekday{Day: day}, ok
	}
	nth, counted := signed(s[:at])
	d := api.Weekday{Nth: nth, Day: day}
	return d, ok && counted && hasNth(d) && allowsWeekday(d)
}

// weekday returns the weekday with that name, and whether there is one.
func weekday(name string) (int, bool) {
	for day, other := range weekdayNames {
		if other == name {
			return day, true
		}
	}
	return 0, false
}

// frequency returns the frequency with that name, and whether there is one.
func frequency(name string) (int, bool) {
	for i, other := range frequencyNames {
		if other == name {
			return Daily + i, true
		}
	}
	return 0, false
}

// until returns the time that is read from s, and whether it is one.
func until(s string) (api.Time, bool) {
	t, e := value.ParseTime(s, "", len(s) == dateLength)
	return t, e == api.OK
}

// amount returns the number that is read from s, and whether it may be an Interval or a Count.
func amount(s string) (int, bool) {
	n, ok := unsigned(s)
	return n, ok && within(n, 1, maxAmount)
}

// signed returns the number of at most maxDigits digits that is read from s, maybe with a sign before them,
// and whether it is one.
func signed(s string) (int, bool) {
	digits, negative := strings.CutPrefix(s, "-")
	if negative {
		n, ok := unsigned(digits)
		return -n, ok
	}
	return unsigned(strings.TrimPrefix(s, "+"))
}

// unsigned returns the number that the digits s tell, and whether s has 1 to maxDigits digits and nothing
// else.
func unsigned(s string) (int, bool) {
	// Layer 12 reads a sign, too, and more digits.
	if strings.HasPrefix(s, "-") || len(s) > maxDigits {
		return 0, false
	}
	n, e := value.Number(s)
	return n, e == api.OK
}
